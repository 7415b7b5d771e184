import PyProof.Rows.All
import Wide.All
import OpenK.AllK
import Wide.FinOn
import HandS.Base
import HandS.Call
import HandS.List
import HandS.Ends
import HandS.Wide
import HandS.Iter
import HandS.Conv
import HandS.ForMost
import HandS.ForExc
import HandS.SortInts
import HandS.SortKw
import HandS.SetFor
import HandS.Style
import HandS.Codes
import HandS.Strs
import HandS.Walk
import HandS.IsInst
import HandS.NoneIn
import HandS.Deep
import HandS.More
import HandS.GenBody
import HandS.GenYield
import HandS.GenCall
import HandS.GenList
import KE.KDictZip
import KE.GoesEnumKw
import HandS.ExcValue
import HandS.Dict
import KE.KDictDisplayH
import PySem.Challenge.RW_sortstretches_k27_completed_by_search
set_option maxHeartbeats 20000000
set_option Elab.async false
set_option linter.all false
set_option maxRecDepth 100000
namespace Xk
open PySem PySem.Spec PyProof.Rows L2

/-- a def's promise where no list is being written out around the call -/
structure FnG (P : Program) (w : World) (K : PySem.W.Frag) (mg : Str → Option Value) (B : Heap) (CX : CXT) (n : Nat) (g : Addr) (fd : FuncData) (ps : List Str) (sp : Sp) : Prop where
  cnt : ∀ vs H Q E, sp vs H Q E → vs.length = ps.length
  go : ∀ (A : Around) (ou : List Env) (t : Shared) (H : Hp) (ar : Args) (us : List Value) (vs : List V) (Q : VK) (E : XK),
    A.guards = some [] → Room n A → Env0 P w K mg B A ou t H → BindsTo t fd ar (ps.zip us) → Vals vs us → sp vs H Q E →
      codeAny (model P w) A (.call (.ref g) ar) (CR CX ou P w H t Q E) t

theorem FnG.of {P : Program} {w : World} {K : PySem.W.Frag} {mg : Str → Option Value} {B : Heap} {CX : CXT} {n : Nat} {g : Addr} {fd : FuncData} {ps : List Str} {sp : Sp}
    (F : FnOk P w K mg B CX n g fd ps sp) : FnG P w K mg B CX n g fd ps sp :=
  ⟨F.len, fun A ou t H ar us vs Q E _ room env bi rv hs => F.run A ou t H ar us vs Q E room env bi rv hs⟩

section
variable {X : Cx} {CX : CXT} {n : Nat} {g : Addr} {fd : FuncData} {ps ks : List Str} {sp : Sp} {dvs : List V} {ds : List Value} {E : XK} {x : Str} {p pos : Pos} {e : Expr} {es : List Expr} {kws : List Keyword} {t tk : TA}

theorem endG {pins : List (Addr × Obj)} {σ : L2.St} {H : Hp} {s s' : Shared} {Q : VK} {r : Result} (pas : Passes CX X E) (I : Inv X pins σ H s)
    (z : CR CX X.stack X.prog X.w H s Q E r s') :
    (match r with | .ok (.ret u) => EP X pins σ Q u s' | .ok _ => False | .error er => X.xe er s') := by
  match r, z with
  | .error er, z => exact pas pins σ H s er s' I z
  | .ok (.ret u), z => exact I.after z
  | .ok .next, z => exact z.elim
  | .ok .brk, z => exact z.elim
  | .ok .cont, z => exact z.elim

theorem goG {pins : List (Addr × Obj)} {σ : L2.St} {H : Hp} {s : Shared} {Q : VK} {us : List Value} {vs : List V} (F : FnG X.prog X.w X.K X.mg X.base CX n g fd ps sp)
    (hG : X.A.guards = some []) (room : Room n X.A) (bi : Binds X.K fd ps ds) (dv : Vals dvs ds) (pas : Passes CX X E) (I : Inv X pins σ H s) (rv : Vals vs us) (z : sp (vs ++ dvs) H Q E) :
    wpAny (model X.prog X.w) X.A (PySem.call (.ref g) us) (EP X pins σ Q) X.xe s := by
  have rv2 := rv.append dv
  have hlen : (us ++ ds).length = ps.length := rv2.length ▸ F.cnt _ _ _ _ z
  exact wpAny_call (codeAny_mono (F.go X.A X.stack s H ⟨us, []⟩ _ _ Q E hG room I.env0 (bi s us I.kIn hlen) rv2 z) fun r s' y => by
    have := endG pas I y
    revert this
    cases r with
    | error _ => exact id
    | ok fl => cases fl <;> exact id)

theorem pe_callG (F : FnG X.prog X.w X.K X.mg X.base CX n g fd ps sp) (hG : X.A.guards = some []) (room : Room n X.A) (gx : Gl X x) (at' : X.mg x = some (.ref g)) (kp : PySem.W.keepIn X.K (.ref g) = true)
    (bi : Binds X.K fd ps ds) (dv : Vals dvs ds) (pas : Passes CX X E) (ha : PA X (e :: es) t) (hdb : (x == ("__debug__" : Str)) = false := by decide)
    (he : starEach (e :: es) X.env = (false, eval e X.env) :: starEach es X.env := by rfl) (hpl : (backTo pos (starEach es X.env)).any (·.1) = false := by rfl) : PE X (.Call (.Name x p) (e :: es) [] pos) (tCall sp dvs E t) :=
  ⟨fun pins s σ H Q I z => wpAny_Call_Name_kw (ld_glob I gx at'
    (PySem.W.callWith_K (h₀ := X.base) I.ok.mod.kin kp (thn (ha.run pos pins s σ H _ I z) fun us s1 ⟨vs, H1, I1, r, q⟩ => ⟨I1.kIn, goG F hG room bi dv pas I1 r q⟩) he hpl) hdb)⟩

variable {ff : List Value → List Value → List Value} {fV : List V → List V → List V}
theorem goGK {pins : List (Addr × Obj)} {σ : L2.St} {H : Hp} {s : Shared} {Q : VK} {us ws : List Value} {vs zs : List V} (F : FnG X.prog X.w X.K X.mg X.base CX n g fd ps sp)
    (hG : X.A.guards = some []) (room : Room n X.A) (bi : KBinds X.K fd ps ks ff fV) (pas : Passes CX X E) (I : Inv X pins σ H s) (rv : Vals vs us) (rw' : Vals zs ws) (z : sp (fV vs zs) H Q E) :
    wpAny (model X.prog X.w) X.A (PySem.call (.ref g) us (ks.zip ws)) (EP X pins σ Q) X.xe s := by
  have rv2 := bi.rel rv rw'
  have hlen : (ff us ws).length = ps.length := rv2.length ▸ F.cnt _ _ _ _ z
  exact wpAny_call (codeAny_mono (F.go X.A X.stack s H ⟨us, ks.zip ws⟩ _ _ Q E hG room I.env0 (bi.to s us ws I.kIn hlen) rv2 z) fun r s' y => by
    have := endG pas I y
    revert this
    cases r with
    | error _ => exact id
    | ok fl => cases fl <;> exact id)

/-- f(e, .., k = v, ..) -/
theorem pe_callKG (F : FnG X.prog X.w X.K X.mg X.base CX n g fd ps sp) (hG : X.A.guards = some []) (room : Room n X.A) (gx : Gl X x) (at' : X.mg x = some (.ref g)) (kp : PySem.W.keepIn X.K (.ref g) = true)
    (bi : KBinds X.K fd ps ks ff fV) (pas : Passes CX X E) (ha : PA X (e :: es) t) (hkw : PK X kws tk) (hdb : (x == ("__debug__" : Str)) = false := by decide)
    (all' : (backToKw pos (keywordEach kws X.env)).all (·.1.isSome) = true := by rfl) (nms : (backToKw pos (keywordEach kws X.env)).filterMap (·.1) = ks := by rfl)
    (he : starEach (e :: es) X.env = (false, eval e X.env) :: starEach es X.env := by rfl)
    (hpl : ((backTo pos (starEach (e :: es) X.env)).any (·.1) || (backToKw pos (keywordEach kws X.env)).any (·.1.isNone)) = false := by rfl) :
    PE X (.Call (.Name x p) (e :: es) kws pos) (tCallK sp fV E t tk) := by
  subst nms
  exact ⟨fun pins s σ H Q I z => wpAny_Call_Name_kw (ld_glob I gx at'
    (PySem.W.callWith_KW (h₀ := X.base) I.ok.mod.kin kp all' (thn (ha.run pos pins s σ H _ I z) fun us s1 ⟨vs, H1, I1, r, q⟩ =>
      thn (hkw.run pos pins s1 σ H1 _ I1 q) fun ws s2 ⟨zs, H2, I2, rz, q2⟩ => ⟨I2.kIn, goGK F hG room bi pas I2 r rz q2⟩) hpl he) hdb)⟩
/-- f(k = v, ..) -/
theorem pe_callKG0 (F : FnG X.prog X.w X.K X.mg X.base CX n g fd ps sp) (hG : X.A.guards = some []) (room : Room n X.A) (gx : Gl X x) (at' : X.mg x = some (.ref g)) (kp : PySem.W.keepIn X.K (.ref g) = true)
    (bi : KBinds X.K fd ps ks ff fV) (pas : Passes CX X E) (hkw : PK X kws tk) (hdb : (x == ("__debug__" : Str)) = false := by decide)
    (all' : (backToKw pos (keywordEach kws X.env)).all (·.1.isSome) = true := by rfl) (nms : (backToKw pos (keywordEach kws X.env)).filterMap (·.1) = ks := by rfl)
    (hpl : ((backTo pos (starEach [] X.env)).any (·.1) || (backToKw pos (keywordEach kws X.env)).any (·.1.isNone)) = false := by rfl) :
    PE X (.Call (.Name x p) [] kws pos) (tCallK sp fV E tNil tk) := by
  subst nms
  exact ⟨fun pins s σ H Q I z => wpAny_Call_Name_kw (ld_glob I gx at'
    (PySem.W.callWith_KW0 (h₀ := X.base) I.ok.mod.kin kp all' (thn (hkw.run pos pins s σ H _ I z) fun ws s2 ⟨zs, H2, I2, rz, q2⟩ => ⟨I2.kIn, goGK F hG room bi pas I2 .nil rz q2⟩) hpl) hdb)⟩
end

/-- a def of the text by its body, the guards known -/
theorem fnG_of {P : Program} {w : World} {K : PySem.W.Frag} {mg : Str → Option Value} {B : Heap} {CX : CXT} {n : Nat} {g : Addr} {nm qual : Str} {pars : Arguments} {bd : List Stmt} {sc : Scope} {dV kV doc pm cdv ct oc : Value} {an od : Option Addr}
    {osl : Array (Option Value)} {N ps : List Str} {sp : Sp} (lk : K.lookup g = some ⟨oc, od, .func (PySem.W.fnOf nm qual pars bd sc dV kV doc pm an cdv ct), osl⟩) (hcd : PySem.W.codeIn K cdv qual = true) (S : FnScope N ps sc)
    (cnt : ∀ vs H Q E, sp vs H Q E → vs.length = ps.length)
    (body : ∀ (A : Around) (ou : List Env) (t : Shared) (H : Hp) (vs : List V) (Q : VK) (E : XK), A.guards = some [] → Room n (A.deeper (envOfC qual sc t.heap.objs.size g cdv)) → sp vs H Q E →
      ∃ r, PSs (cxOf CX P w K mg B N qual sc g cdv A ou t H E) bd r ∧ r { nx := fun _ H' => Q .non H', rt := Q } (L2.start N vs) H) :
    FnG P w K mg B CX (n + 1) g (PySem.W.fnOf nm qual pars bd sc dV kV doc pm an cdv ct) ps sp where
  cnt := cnt
  go A ou t H ar us vs Q E hG room env bi rv z := by
    have kin := env.mod.kin.keeps fun b o e => (env.bs b o e).1
    have lim := env.mod.nolimit.keeps fun b o e => (env.bs b o e).1
    have kinds : ∀ y ∈ ps.zip us, sc.names.lookup y.1 = some .local ∨ (sc.names.lookup y.1 = some .cell ∧ ((cellsFrom (t.heap.objs.size + 1) sc.names []).lookup y.1).isSome = true) := fun y hy =>
      (S.par y.1 (List.of_mem_zip (a := y.1) (b := y.2) hy).1).imp id fun q => ⟨q, PySem.W.cellsFrom_some _ _ _ (.inl q)⟩
    refine codeAny_call_function room.depth (kin _ _ lk) rfl S.co S.gen rfl (PySem.W.codeRec_of kin hcd) (bi _ _ _ _ (wpAny_newFunctionEnv_cells S.kind kinds fun env' he t1 x => ?_))
    subst he
    obtain ⟨r, hr, hq⟩ := body A ou t H vs Q E hG (room.deeper _) z
    refine ⟨lim.keeps x.toInCall.keep, codeAny_func (wpAny_mono (hr.run [] t1 (L2.start N vs) H _ (inv_start S room.hd env (cnt _ _ _ _ z) rv x) hq) (fun fl t' y => ?_) fun e t' y => y)⟩
    match fl, y with
    | .ret u, ⟨v, σ', H', J, ru, q⟩ => exact ⟨v, H', J.os, J.bare, J.base, J.hok, ru, q⟩
    | .next, ⟨σ', H', J, q⟩ => exact ⟨V.non, H', J.os, J.bare, J.base, J.hok, rfl, q⟩
    | .brk, ⟨_, _, _, q⟩ => exact q.elim
    | .cont, ⟨_, _, _, q⟩ => exact q.elim

/-- the law's call at the claim's caller, over an abstract heap that tracks the script at most -/
theorem lawG0 {P : Program} {w : World} {K : PySem.W.Frag} {mg mb : Str → Option Value} {CX : CXT} {n : Nat} {fa a : Addr} {fd : FuncData} {x : Str} {sp : Sp} {t : Shared} {vs : List Value} {H : Hp}
    (kin : K.In t.heap) (hm : t.heap.Ns mainGlobals mg) (hb : t.heap.Ns builtinsNs mb) (hbb : ∀ y : Str, y ≠ "__name__" → mb y = bootBuiltins y) (lim : t.heap.NoLimit) (gens : t.gens = #[])
    (ha : t.heap.get? a = some { cls := .type "list", data := .seq vs.toArray }) (room : Room n callerA)
    (F : ∀ B : Heap, K.In B → B.Ns mainGlobals mg → FnG P w K mg B CX n fa fd [x] sp) (bi : ∀ (s : Shared) (u : Value), BindsTo s fd ⟨[u], []⟩ [(x, u)])
    (z : sp [.ref a] H (fun v _ => v = .bl true) fun _ _ _ => False) (noX : ∀ H e s', CX [] H t (fun _ _ _ => False) e s' → False)
    (only : Only H) (hok : HOk P w H t.heap) (hA : ∀ b, H b ≠ none → b = a) (hK : H a ≠ none → K.lookup a = none) :
    codeAny (model P w) callerA (.call (.ref fa) ⟨[.ref a], []⟩) (fun r s' => r = .ok (.ret (.bool true)) ∧ OldK t.heap s'.heap ∧ s'.os = t.os ∧ AllBare s'.gens) t := by
  have free : ∀ {b : Addr}, b ≠ a → H b = none := fun {b} hne => Classical.byContradiction fun q => hne (hA b q)
  have low : ∀ {b : Addr} {o : Obj}, t.heap.get? b = some o → H b = none → (hidT t.heap H).get? b = some o := fun e q => hidT_get e q
  have dict : ∀ {b : Addr} {o : Obj} {es : Array DictEntry} {ep : Nat}, t.heap.get? b = some o → o.data = .dict es ep → H b = none := fun {b o es ep} e d => free fun q => by
    subst q
    rw [ha] at e
    cases e
    exact nomatch (show Data.seq vs.toArray _ = Data.dict es ep from d)
  have ns : ∀ {b : Addr} {m : Str → Option Value}, t.heap.Ns b m → (hidT t.heap H).Ns b m := fun ⟨o, es, ep, e, d, r⟩ => ⟨o, es, ep, low e (dict e d), d, r⟩
  have kb : K.In (hidT t.heap H) := fun b o e => low (kin b o e) (by
    by_cases q : b = a
    · subst q
      exact Classical.byContradiction fun y => by rw [hK y] at e; cases e
    · exact free q)
  obtain ⟨mc, l1, l2⟩ := lim
  have env : Env0 P w K mg (hidT t.heap H) callerA [] t H :=
    { frames := rfl, mod := ⟨kb, ns hm, ⟨mb, ns hb, hbb⟩, ⟨mc, ns l1, l2⟩⟩, bs := fun b o e => of_hidT e, bsz := Nat.le_of_eq (hidT_size _ _), funs := trivial,
      frf := fun b q => absurd (show b ∈ ([] : List Addr) from q) (by simp), hok := hok, bare := .of_eq gens }
  refine codeAny_mono ((F _ kb (ns hm)).go callerA [] t H ⟨[.ref a], []⟩ [.ref a] [.ref a] _ _ rfl room env (bi t (.ref a)) (.cons rfl .nil) z) fun r s' y => ?_
  match r, y with
  | .error e, y => exact (noX H e s' y).elim
  | .ok (.ret u), ⟨v, H', os, bare, un, hok', ru, q⟩ =>
    cases (show v = .bl true from q)
    cases (show u = Value.bool true from ru)
    refine ⟨rfl, OldK.of_keep fun b o e => ?_, os, bare⟩
    match hq : H b with
    | none => exact un.keep b o e hq (by intro q; exact absurd (show b ∈ ([] : List Addr) from q) (by simp)) (by simp)
    | some u =>
      rcases only b with q | ⟨ob, xs, q⟩
      · rw [hq] at q; cases q
      · obtain ⟨e1, _⟩ := hok b _ q
        obtain ⟨e2, _⟩ := hok' b _ (un.frzs b ob _ q)
        rw [e] at e1; cases e1
        exact e2

theorem lawG {P : Program} {w : World} {K : PySem.W.Frag} {mg mb : Str → Option Value} {CX : CXT} {n : Nat} {fa a : Addr} {fd : FuncData} {x : Str} {sp : Sp} {t : Shared} {vs : List Value} {ns : List Int}
    (kin : K.In t.heap) (hm : t.heap.Ns mainGlobals mg) (hb : t.heap.Ns builtinsNs mb) (hbb : ∀ y : Str, y ≠ "__name__" → mb y = bootBuiltins y) (lim : t.heap.NoLimit) (gens : t.gens = #[])
    (ha : t.heap.get? a = some { cls := .type "list", data := .seq vs.toArray }) (hi : IntsAre vs ns) (hl : ns.length ≤ sizeLine) (room : Room n callerA)
    (F : ∀ B : Heap, K.In B → B.Ns mainGlobals mg → FnG P w K mg B CX n fa fd [x] sp) (bi : ∀ (s : Shared) (u : Value), BindsTo s fd ⟨[u], []⟩ [(x, u)])
    (z : ∀ H : Hp, Only H → SqL K H a (ns.map V.int) → sp [.ref a] H (fun v _ => v = .bl true) fun _ _ _ => False) (noX : ∀ H e s', CX [] H t (fun _ _ _ => False) e s' → False) :
    codeAny (model P w) callerA (.call (.ref fa) ⟨[.ref a], []⟩) (fun r s' => r = .ok (.ret (.bool true)) ∧ OldK t.heap s'.heap ∧ s'.os = t.os ∧ AllBare s'.gens) t := by
  have rv := vals_ints hi
  match hk : K.lookup a with
  | some o =>
    have e := kin a o hk
    rw [ha] at e
    cases e
    have on : Only fun _ => none := fun _ => .inl rfl
    exact lawG0 kin hm hb hbb lim gens ha room F bi (z _ on (.inr ⟨_, vs.toArray, _, hk, rfl, rfl, rfl, by rw [List.size_toArray, hi.length]; exact hl, by simpa using rv⟩)) noX on
      (fun b u q => nomatch (show (none : Option HO) = some u from q)) (fun b q => absurd rfl q) fun q => absurd rfl q
  | none =>
    have at0 : ∀ {b : Addr}, b ≠ a → (if b = a then some (HO.frz { cls := .type "list", data := .seq vs.toArray } (.lst (ns.map V.int))) else none) = none := fun q => if_neg q
    have on : Only fun b => if b = a then some (HO.frz { cls := .type "list", data := .seq vs.toArray } (.lst (ns.map V.int))) else none := fun b => by
      by_cases q : b = a
      · exact .inr ⟨_, _, if_pos q⟩
      · exact .inl (if_neg q)
    refine lawG0 kin hm hb hbb lim gens ha room F bi (z _ on (.inl (.inr ⟨_, if_pos rfl⟩))) noX on (fun b u q => ?_) (fun b q => Classical.byContradiction fun y => q (if_neg y)) fun _ => hk
    by_cases y : b = a
    · subst y
      cases (if_pos rfl).symm.trans q
      exact ⟨ha, by rw [List.length_map]; exact hl, vs, _, rv, ha⟩
    · cases (at0 y).symm.trans q

/-- the goal that the head leaves, from the law's promise -/
theorem walkG {l : PySem.W.OpenLaw} {m n : Nat} {q : Program} {loose : List Str} {XP : (Str → Option Value) → Heap → Prop} {YP : World → Heap → Prop} {d : DefRec} {K : Params → PySem.W.Frag} {CX : CXT} {sp : PySem.W.Frag → Sp} {x : Str}
    (hn : l.most = some m) (hm : m ≤ sizeLine) (hdf : d.params.defaults = []) (room : Room n callerA) (hY : ∀ (w : World) (h : Heap), YP w h → (K w.params).In h)
    (F : ∀ (w : World) (mg : Str → Option Value) (fa : Addr) (h : Heap), (K w.params).In h → h.Ns mainGlobals mg → mg d.name = some (.ref fa) →
      ∃ fd : FuncData, (∀ (s : Shared) (u : Value), BindsTo s fd ⟨[u], []⟩ [(x, u)]) ∧
        ∀ B : Heap, (K w.params).In B → B.Ns mainGlobals mg → FnG l.prog w (K w.params) mg B CX n fa fd [x] (sp (K w.params)))
    (z : ∀ (K : PySem.W.Frag) (H : Hp) (a : Addr) (ns : List Int), ns.length ≤ m → Only H → SqL K H a (ns.map V.int) → sp K [.ref a] H (fun v _ => v = .bl true) fun _ _ _ => False)
    (noX : ∀ (H : Hp) (s : Shared) (e : Value) (s' : Shared), CX [] H s (fun _ _ _ => False) e s' → False) : PySem.W.WalkO q loose XP YP l.row.toRowW d [] (fun f vs => PySem.call f vs) :=
  Att.attach_call hn hdf fun w s0 s1 mg mb fa o pm cd doc a vs ns G Y ho hd hcd hmg hobj hints hlen hg =>
    have ⟨fd, hb, hF⟩ := F w mg fa _ (hY w _ Y) G.T.g hmg
    lawG (hY w _ Y) G.T.g G.T.b G.T.builtins G.T.nolimit hg hobj hints (Nat.le_trans hlen hm) room hF hb (fun H hO hS => z (K w.params) H a ns hlen hO hS) fun H e s' => noX H s1 e s'
end Xk

set_option Elab.async false
set_option linter.all false
set_option maxRecDepth 100000
namespace Xk
open PySem PySem.Spec PyProof.Rows L2

/-- ** with a whole exponent: base's bits times exponent within 2^27 -/
def CPowW (i j : Int) : Prop := 0 ≤ j ∧ (Builtin.Int.intBits i : Int) * j ≤ 2 ^ 27
section
variable {X : Cx}
theorem op_powW : OpR X (binaryOp .Pow) (rI CPowW fun i j => .int (i ^ j.toNat)) := opI fun _ _ _ _ _ _ _ hc q => pow_int hc.1 hc.2 q
end
theorem bits_le {i : Int} {n : Nat} (h : i.natAbs < 2 ^ n) : Builtin.Int.intBits i ≤ n := by
  unfold Builtin.Int.intBits
  split
  · omega
  · rename_i h0
    have h0' : i.natAbs ≠ 0 := by
      intro z
      apply h0
      simp [Int.natAbs_eq_zero.mp z]
    have := (Nat.log2_lt h0').mpr h
    omega
theorem powW {i : Int} {n : Nat} {j : Int} (h : i.natAbs < 2 ^ n) (h0 : 0 ≤ j) (hj : j ≤ 3) (hn : n ≤ 40000000) : CPowW i j := by
  refine ⟨h0, ?_⟩
  have h1 := bits_le h
  have : (Builtin.Int.intBits i : Int) * j ≤ 40000000 * 3 := by
    refine Int.mul_le_mul ?_ hj h0 (by omega)
    omega
  refine Int.le_trans this (by decide)

/-! ### xs[i] read for op= -/
section
variable {X : Cx}
theorem get_list : PGet X (rIxL X.K) := by
  intro pins s σ H o i ov iv Q I ro ri h
  obtain ⟨p, xs, k, z, rfl, rfl, hq, he, q⟩ := h
  cases ro
  obtain ⟨t, rfl⟩ := ri
  obtain ⟨its, r, pl, hz⟩ := I.list hq
  obtain ⟨j, h1, h2, h3, h4, h5⟩ := atI_get he
  obtain ⟨u, eu, ru⟩ := r.get h2
  have hl := r.length
  have hn := line63
  by_cases h0 : 0 ≤ k
  · have hj : k.toNat = j := by
      rw [seqIndex_of h0 h5] at h1
      exact Option.some.inj h1
    exact wpAny_getItem_list pl.isList h0 (by omega) (by rw [hj]; simpa using eu) ⟨z, H, I, ru, q⟩
  · have hj : (k + (its.toArray.size : Int)).toNat = j := by
      rw [seqIndex_neg (by omega) h4] at h1
      rw [List.size_toArray, ← hl]
      exact Option.some.inj h1
    exact wpAny_getItem_list_neg pl.isList (by omega) (by rw [List.size_toArray] <;> omega) (by omega) (by rw [hj]; simpa using eu) ⟨z, H, I, ru, q⟩
end

/-! ### xs[a:c] = ys -/
section
variable {X : Cx} {o : Expr} {lo hi : Option Expr} {to : TE} {tl th : TO} {p2 pos : Pos}
def gSlc (to : TE) (tl th : TO) : TG := fun v σ H Q => to σ H fun x H1 => tl σ H1 fun l H2 => th σ H2 fun u H3 =>
  ∃ (p b : Addr) (xs ys : List V) (a c : Int), x = .ref p ∧ v = .ref b ∧ l = some a ∧ u = some c ∧ H3 p = some (.lst xs) ∧ H3 b = some (.lst ys) ∧ p ≠ b ∧ 0 ≤ a ∧ a ≤ c ∧ c ≤ xs.length ∧ xs.length + ys.length ≤ sizeLine ∧
    Q σ (upd H3 p (.lst (xs.take a.toNat ++ ys ++ xs.drop c.toNat)))
theorem pg_slc (ho : PE X o to) (hl : PO X lo tl) (hu : PO X hi th) : PG X (.Subscript o (.Slice lo hi none p2) pos) (gSlc to tl th) := by
  refine ⟨fun pins s σ H v u Q I r z => ?_⟩
  rw [arm_assign_Subscript]
  refine wpAny_bind (wpAny_holding (thn (ho.run pins s σ H _ I z) fun ov s1 ⟨x, H1, I1, r1, q1⟩ => ?_))
  refine wpAny_bind (wpAny_holding (wpAny_Slice (thn (hl.run pins s1 σ H1 _ I1 q1) fun vl s2 ⟨l, H2, I2, pl, q2⟩ => thn (hu.run pins s2 σ H2 _ I2 q2) fun vu s3 ⟨c', H3, I3, pu, q3⟩ => ?_)))
  rw [evalPart_none]
  refine wpAny_pure ?_
  obtain ⟨p, b, xs, ys, a, c, rfl, rfl, rfl, rfl, hp, hb, hne, h0, hac, hc, hz, q⟩ := q3
  cases r1
  cases r
  cases pl with
  | int _ ta =>
    cases pu with
    | int _ tc =>
      have I4 : Inv X pins σ H3 { s3 with heap := s3.heap.push { cls := .type "slice", data := .fields #[.int a ta, .int c tc, .none] } } := I3.kept (t' := s3.toks) fun b ob q => Heap.get?_push_of_some _ q
      refine wpAny_bind (wpAny_standAt (wpAny_bind (wpAny_holding (set_slice I4 hp hb hne (Heap.IsSliceOf.new ..) ⟨ta, rfl⟩ ⟨tc, rfl⟩ h0 hac hc hz fun s' I5 => ?_))))
      exact wpAny_release ⟨σ, _, I5, q⟩
end

/-! ### repr of lists -/
section
variable {X : Cx}
mutual
theorem dp_nodict {K : PySem.W.Frag} {H : Hp} : ∀ (d : PyData) (v : V), Dp K H v d → d.hasDict = false
  | .none, _, _ => rfl
  | .bool _, _, _ => rfl
  | .int _, _, _ => rfl
  | .str _, _, _ => rfl
  | .list ds, _, h => by
    cases h with
    | lst _ a => exact dp_nodictAll ds _ a
  | .tuple ds, _, h => by
    cases h with
    | tup _ a => exact dp_nodictAll ds _ a
  | .dict _, _, h => by cases h
theorem dp_nodictAll {K : PySem.W.Frag} {H : Hp} : ∀ (ds : List PyData) (vs : List V), DpAll K H vs ds → PyData.hasDictAll ds = false
  | [], _, _ => rfl
  | d :: ds, _, h => by
    cases h with
    | cons a b =>
      show (d.hasDict || PyData.hasDictAll ds) = false
      rw [dp_nodict d _ a, dp_nodictAll ds _ b]
      rfl
end
def rReprD (K : PySem.W.Frag) : List V → Hp → VK → Prop := fun xs H Q => ∃ a d, xs = [.ref a] ∧ Dp K H (.ref a) d ∧ d.showable = true ∧ d.depth ≤ 60 ∧ d.shown.length ≤ sizeLine ∧ Q (.str d.shown) H
theorem call_reprD (hG : X.A.guards = some []) (hu : X.A.units + 64 < cLine) : CallR X (.builtin "repr") (rReprD X.K) := by
  intro pins s σ H xs us Q I r h
  obtain ⟨a, d, rfl, hd, hs, hdp, hz, q⟩ := h
  obtain ⟨u, rfl, rfl⟩ := vals1 r
  obtain ⟨as, rd⟩ := Dp.reads I d _ _ hd rfl
  exact repr_of_reads' rd hs (fun z => by rw [dp_nodict d _ hd] at z; cases z) hG (by omega) (fun b o e => e) (fun h' u tk k => ⟨.str d.shown, H, I.kept k, ⟨u, rfl⟩, q⟩) hz
end
end Xk

set_option Elab.async false
set_option linter.all false
set_option maxRecDepth 100000
namespace Xk
open PySem PySem.Spec PyProof.Rows L2
/-! ### list(range(a, b, c)) -/
def rg3V (i c : Int) (n : Nat) : List V := (List.range n).map fun k => V.int (i + (k : Nat) * c)
theorem rg3V_length (i c : Int) (n : Nat) : (rg3V i c n).length = n := by unfold rg3V; simp
theorem vals_rg3 {i c : Int} {n : Nat} {acc : Array Value} (h : ItemsOf (fun k v => ∃ t, v = .int (i + k * c) t) acc n) : Vals (rg3V i c n) acc.toList := by
  have e : acc.toList.length = n := by rw [Array.length_toList]; exact h.1
  unfold rg3V
  rw [← e]
  refine vals_of_get _ (fun k => V.int (i + (k : Nat) * c)) fun j u hu => ?_
  exact h.2 j u (by simpa using hu)
def tLst3 (ta : TA) : TE := fun σ H Q => ta σ H fun vs H1 => ∃ (i j c : Int) (n : Nat), vs = [.int i, .int j, .int c] ∧ RgC i j c n ∧ n ≤ 2 ^ 24 ∧ ∀ q, H1 q = none → Q (.ref q) (upd H1 q (.lst (rg3V i c n)))
section
variable {X : Cx} {a b c : Expr} {ta : TA} {p pos p1 pos1 : Pos}
theorem pe_listRg3 (calm : X.calm = true) (hl : Gl X "list") (ml : X.mg "list" = none) (hg : Gl X "range") (hm : X.mg "range" = none) (ha : PA X [a, b, c] ta)
    (hs : starEach [a, b, c] X.env = (false, eval a X.env) :: starEach [b, c] X.env := by rfl) (hpl : (backTo pos (starEach [b, c] X.env)).any (·.1) = false := by rfl)
    (na : starEach [Expr.Call (.Name "range" p) [a, b, c] [] pos] X.env = (false, eval (Expr.Call (.Name "range" p) [a, b, c] [] pos) X.env) :: starEach [] X.env := by rfl) :
    PE X (.Call (.Name "list" p1) [.Call (.Name "range" p) [a, b, c] [] pos] [] pos1) (tLst3 ta) := by
  refine ⟨fun pins s σ H Q I z => ?_⟩
  refine Call_ (ld_blt I hl ml boot_list (PyProof.Rows.callWith_type1 (args_cons (Call_ (ld_blt I hg hm boot_range (PyProof.Rows.callWith_type1 (thn (ha.run pos pins s σ H _ I z) fun us s1 ⟨vs, H1, I1, r1, q1⟩ => ?_) hs hpl))) na) na))
  obtain ⟨i, j, k, n, e, ⟨c0, c1, c2, c3⟩, hn, q⟩ := q1
  subst e
  cases r1 with
  | cons r rr =>
    cases rr with
    | cons r' rr =>
      cases rr with
      | cons r'' rr =>
        cases rr
        obtain ⟨t, rfl⟩ := r
        obtain ⟨t', rfl⟩ := r'
        obtain ⟨t'', rfl⟩ := r''
        refine call_range_3 c0 (args_nil ?_) (.inl (PyProof.noPylong_small c1))
        have I2 : Inv X pins σ H1 { s1 with heap := s1.heap.push { cls := .type "range", data := .fields #[.int i t, .int j t', .int k t''] }, toks := s1.toks } := I1.kept fun b o e => Heap.get?_push_of_some _ e
        refine call_list_range (n := n) (I2.ok.hd calm) (IsRange.new ..) c2 c3 hn fun h' tk acc c' hk e' hi => ?_
        refine ⟨.ref _, upd H1 _ (.lst (rg3V i k n)), I2.laid hk (Nat.le_refl _) (show ObjOk X.prog X.w _ _ _ (.lst (rg3V i k n)) from ⟨?_, acc.toList, c', vals_rg3 hi, ?_⟩), rfl, q _ (I2.hok.fresh (Nat.le_refl _))⟩
        · rw [rg3V_length]; exact hn
        · rw [Array.toArray_toList]; exact e'
end
end Xk

set_option Elab.async false
set_option linter.all false
set_option maxRecDepth 100000
namespace Xk
open PySem PySem.Spec PyProof.Rows L2

section
variable {P : Program} {w : World} {K : PySem.W.Frag} {mg : Str → Option Value} {base : Heap}
/-- a def by its body, the guards known, nothing raised -/
theorem okG {x qual : Str} {st : Stmt} {f : Addr} {fd : FuncData} {N ps : List Str} {k : Nat} {sp : Sp} (F : Fun K x qual st f fd) (S : FnScope N ps (defScope st)) (cnt : ∀ vs H Q E, sp vs H Q E → vs.length = ps.length)
    (body : ∀ (cdv : Value) (A : Around) (ou : List Env) (t : Shared) (H : Hp) (vs : List V) (Q : VK) (E : XK), A.guards = some [] → Room k (A.deeper (envOfC qual (defScope st) t.heap.objs.size f cdv)) → sp vs H Q E →
      ∃ r, PSs (cxOf CX0 P w K mg base N qual (defScope st) f cdv A ou t H E).nox (defBody st) r ∧ r ⟨fun _ H' => Q .non H', Q, fun _ _ => False, fun _ _ => False⟩ (L2.start N vs) H) : FnG P w K mg base CX0 (k + 1) f fd ps sp := by
  obtain ⟨oc, od, kV, doc, pm, an, cdv, ct, osl, rfl, lk, hcd⟩ := F.ex
  refine fnG_of lk hcd S cnt fun A ou t H vs Q E hG hr hsp => ?_
  obtain ⟨r, h, q⟩ := body cdv A ou t H vs Q E hG hr hsp
  exact ⟨r, h.nox, q⟩
end

/-! ### words -/
section
variable {X : Cx} {x : Str} {pos pos' : Pos} {e : Expr} {te : TE} {op : Operator} {ti : TIp}
theorem sset (i : Nat) (nd : X.N.Nodup) (he : PE X e te) (hi : X.N[i]? = some x := by rfl) (hx : Loc X.env.scope x := by first | exact Or.inl rfl | exact Or.inr rfl)
    (hs : swapsWith e (some (.Name x pos')) pos.line X.env = pure false := by rfl) (hf : X.fn x = true ∨ X.env.scope.names.lookup x = some .local := by first | exact Or.inl rfl | exact Or.inr rfl) : PS X (.Assign [.Name x pos'] e pos) (tAsg te (gName i)) := ps_set nd hi hx he hs hf
theorem gset (i : Nat) (nd : X.N.Nodup) (hi : X.N[i]? = some x := by rfl) (hx : Loc X.env.scope x := by first | exact Or.inl rfl | exact Or.inr rfl) (hf : X.fn x = true ∨ X.env.scope.names.lookup x = some .local := by first | exact Or.inl rfl | exact Or.inr rfl) : PG X (.Name x pos) (gName i) := pg_name nd hi hx hf
theorem saug (i : Nat) (nd : X.N.Nodup) (he : PE X e te) (ho : PIp X op ti) (hi : X.N[i]? = some x := by rfl) (hx : Loc X.env.scope x := by first | exact Or.inl rfl | exact Or.inr rfl) (hf : X.fn x = true ∨ X.env.scope.names.lookup x = some .local := by first | exact Or.inl rfl | exact Or.inr rfl) : PS X (.AugAssign (.Name x pos') op e pos) (tAug i te ti) := ps_aug nd hi hx he ho hf
end
/-! ### the rules that speak of the written part, the part given -/
section
variable {X : Cx} (K : PySem.W.Frag) {e a b l o : Expr} {es ts : List Expr} {te ta tb tl to : TE} {t : TA} {g : TGs} {pos cpos apos p p1 p2 p3 tpos : Pos} {tg : Expr} {T id : String} {name : Str}
theorem ix_listK (hK : X.K = K := by rfl) : IxR X (rIxL K) := hK ▸ ix_list
theorem ix_tupK (hK : X.K = K := by rfl) : IxR X (rIxT K) := hK ▸ ix_tup
theorem sl_listK (hK : X.K = K := by rfl) : SlR X (rSlL K) := hK ▸ sl_list
theorem sl_tupK (hK : X.K = K := by rfl) : SlR X (rSlT K) := hK ▸ sl_tup
def rLen (K : PySem.W.Frag) : List V → Hp → VK → Prop := fun xs H Q => ∃ p ys, xs = [.ref p] ∧ (SqL K H p ys ∨ SqT K H p ys) ∧ Q (.int ys.length) H
theorem lenK (hK : X.K = K := by rfl) : CallR X (.builtin "len") (rLen K) := hK ▸ call_len_seq
def rListOf (K : PySem.W.Frag) : List V → Hp → VK → Prop := fun xs H Q => ∃ p ys, xs = [.ref p] ∧ (SqL K H p ys ∨ SqT K H p ys) ∧ ∀ l, H l = none → Q (.ref l) (upd H l (.lst ys))
theorem listK (hK : X.K = K := by rfl) : CallR X (.type "list") (rListOf K) := hK ▸ call_list_of
def rTupOf (K : PySem.W.Frag) : List V → Hp → VK → Prop := fun xs H Q => ∃ p ys, xs = [.ref p] ∧ ((SqL K H p ys ∧ ∀ l, H l = none → Q (.ref l) (upd H l (.tup ys))) ∨ (SqT K H p ys ∧ Q (.ref p) H))
theorem tupleK (hK : X.K = K := by rfl) : CallR X (.type "tuple") (rTupOf K) := hK ▸ call_tuple_of
theorem sumK (hc : X.calm = true) (hK : X.K = K := by rfl) : CallR X (.builtin "sum") (rSum K) := hK ▸ cr_sum hc
theorem minK (hc : X.calm = true) (hK : X.K = K := by rfl) : CallR X (.builtin "min") (rMin K) := hK ▸ cr_min hc
theorem maxK (hc : X.calm = true) (hK : X.K = K := by rfl) : CallR X (.builtin "max") (rMax K) := hK ▸ cr_max hc
theorem allK (hc : X.calm = true) (hK : X.K = K := by rfl) : CallR X (.builtin "all") (rAll K) := hK ▸ cr_all hc
theorem anyK (hc : X.calm = true) (hK : X.K = K := by rfl) : CallR X (.builtin "any") (rAny K) := hK ▸ cr_any hc
theorem sortedK (hK : X.K = K := by rfl) : CallR X (.builtin "sorted") (rSortedI K) := hK ▸ cr_sortedI
theorem sortedRK (hK : X.K = K := by rfl) : CallRK X (.builtin "sorted") [Str.ofString "reverse"] (rSortedKw K true [.bl true]) := hK ▸ cr_sortedRev
theorem reprK (hG : X.A.guards = some []) (hu : X.A.units + 64 < cLine) (hK : X.K = K := by rfl) : CallR X (.builtin "repr") (rReprD K) := hK ▸ call_reprD hG hu
theorem eqDK (hu : X.A.units + 64 < cLine) (hK : X.K = K := by rfl) : OpR X (compareOp .Eq) (rEqD K) := hK ▸ op_eqD hu
theorem neDK (hu : X.A.units + 64 < cLine) (hK : X.K = K := by rfl) : OpR X (compareOp .NotEq) (rNeD K) := hK ▸ op_neD hu
theorem inK (hK : X.K = K := by rfl) : OpR X (compareOp .In) (rIn K false) := hK ▸ op_in_seq
theorem notInK (hK : X.K = K := by rfl) : OpR X (compareOp .NotIn) (rIn K true) := hK ▸ op_notIn_seq
theorem lcountK (hK : X.K = K := by rfl) : MtR X "list.count" (rCntI K) := hK ▸ mt_lcount
theorem lindexK (hK : X.K = K := by rfl) : MtR X "list.index" (rIndex K) := hK ▸ mt_index
theorem getK (hK : X.K = K := by rfl) : PGet X (rIxL K) := hK ▸ get_list
theorem pi_listK (h : PE X l tl) (hK : X.K = K := by rfl) : PI X tg l (iList K tl) := hK ▸ pi_list h
theorem pi_tupK (h : PE X l tl) (hK : X.K = K := by rfl) : PI X tg l (iTup K tl) := hK ▸ pi_tup h
theorem pi_enumK {elts : List Expr} {kk : Nat} (hg : Gl X "enumerate") (hm : X.mg "enumerate" = none) (ha : PA X [e] t) (hs : starEach [e] X.env = [(false, eval e X.env)] := by rfl) (hK : X.K = K := by rfl) :
    PI X (.Tuple elts kk tpos) (.Call (.Name "enumerate" p) [e] [] pos) (iEnum K t) := hK ▸ pi_enum hg hm ha hs
theorem pi_reversedK (hg : Gl X "reversed") (hm : X.mg "reversed" = none) (ha : PA X [e] t) (hs : starEach [e] X.env = [(false, eval e X.env)] := by rfl) (hK : X.K = K := by rfl) : PI X tg (.Call (.Name "reversed" p) [e] [] pos) (iRev K t) := hK ▸ pi_reversed hg hm ha hs
theorem pe_revLK {k : Nat} (he : PE X e te) (hK : X.K = K := by rfl) : PE X (.Subscript e (.Slice none none (some (.UnaryOp .USub (.Constant (.int 1) k p1) p2)) p3) pos) (tRevL K te) := hK ▸ pe_revL he
theorem pg_tupK {k : Nat} (n : Nat) (hc : X.calm = true) (h : PGs X es g) (hn : (assignEach es X.env).length = n := by rfl) (hst : (assignEach es X.env).findIdx? (·.1) = none := by rfl) (hK : X.K = K := by rfl) : PG X (.Tuple es k pos) (gTup K n g) := hK ▸ pg_tup hc h hn hst
theorem pi_zipK {e2 : Expr} {elts : List Expr} {kk : Nat} (hg : Gl X "zip") (hm : X.mg "zip" = none) (ha : PA X [e, e2] t)
    (hs : starEach [e, e2] X.env = (false, eval e X.env) :: starEach [e2] X.env := by rfl) (hpl : (backTo pos (starEach [e2] X.env)).any (·.1) = false := by rfl) (hK : X.K = K := by rfl) :
    PI X (.Tuple elts kk tpos) (.Call (.Name "zip" p) [e, e2] [] pos) (iZip K t) := hK ▸ pi_zip hg hm ha hs hpl
theorem pe_bmK {r : V → List V → Hp → VK → Prop} (pa : PlainAttrs T) (slot : Slot T name id) (hty : typeOf (.builtin id) = pure (.type "method_descriptor")) (hm : MtR X id r) (ho : PE X o to) (ha : PA X (e :: es) t)
    (hbase : attributeBase o name X.env (eval o X.env) = eval o X.env := by rfl)
    (hfew : ((backTo cpos (starEach (e :: es) X.env)).all (fun x => !x.1) && (backToKw cpos (keywordEach [] X.env)).all (fun x => x.1.isSome) && decide ((e :: es).length + ([] : List Keyword).length + (if ([] : List Keyword).isEmpty then 0 else 1) < 30)) = true := by rfl)
    (hline : (apos.endLine == cpos.line) = true := by rfl) (hs : starEach (e :: es) X.env = (false, eval e X.env) :: starEach es X.env := by rfl) (hplain : (backTo cpos (starEach es X.env)).any (·.1) = false := by rfl) (hK : X.K = K := by rfl) :
    PE X (.Call (.Attribute o name apos) (e :: es) [] cpos) (tBM K T r to t) := hK ▸ pe_bm pa slot hty hm ho ha hbase hfew hline hs hplain
theorem pe_bm0K {r : V → List V → Hp → VK → Prop} (pa : PlainAttrs T) (slot : Slot T name id) (hty : typeOf (.builtin id) = pure (.type "method_descriptor")) (hm : MtR X id r) (ho : PE X o to)
    (hbase : attributeBase o name X.env (eval o X.env) = eval o X.env := by rfl) (hline : (apos.endLine == cpos.line) = true := by rfl) (hK : X.K = K := by rfl) : PE X (.Call (.Attribute o name apos) [] [] cpos) (tBM0 K T r to) := hK ▸ pe_bm0 pa slot hty hm ho hbase hline
def tTruth (K : PySem.W.Frag) (ta : TE) : TT := fun σ H Q => ta σ H fun x H' => ∃ k, TruV K x H' k ∧ Q k H'
theorem pt_truthK (ha : PE X a ta) (he : ∀ whole, isTrue a X.env whole = (do let v ← whole; standAt a.pos; holding [v] (truthy v)) := by intro _; rfl) (hK : X.K = K := by rfl) : PT X a (tTruth K ta) := hK ▸ pt_truth ha he
end
end Xk

set_option Elab.async false
set_option linter.all false
set_option maxRecDepth 100000
namespace Xk
open PySem PySem.Spec PyProof.Rows L2

section
variable {K : PySem.W.Frag} {σ : L2.St} {H : Hp} {Q : VK} {R : List V → Hp → Prop} {ta tb te tc tv : TE} {tA : TA} {t u : TT} {v x y : V} {i j : Int} {Qb : Bool → Hp → Prop}
  {nx bk ct : L2.St → Hp → Prop} {rt : VK} {s1 s2 : TS} {g g1 : TG} {gs : TGs}
/-! ### expressions -/
theorem r_var {n : Nat} (h : σ[n]? = some (some v)) (q : Q v H) : tVar n σ H Q := ⟨v, h, q⟩
theorem r_c (q : Q v H) : tC v σ H Q := q
theorem r_op {r : R2} (h : ta σ H fun x H1 => tb σ H1 fun y H2 => r x y H2 Q) : tOp r ta tb σ H Q := h
theorem r_un {r : V → Hp → VK → Prop} (h : ta σ H fun x H1 => r x H1 Q) : tUn r ta σ H Q := h
theorem r_I0 {f : Int → Int → V} (q : Q (f i j) H) : rI0 f (.int i) (.int j) H Q := ⟨i, j, rfl, rfl, q⟩
theorem r_I {C : Int → Int → Prop} {f : Int → Int → V} (hc : C i j) (q : Q (f i j) H) : rI C f (.int i) (.int j) H Q := ⟨i, j, rfl, rfl, hc, q⟩
theorem r_U {f : Int → V} (q : Q (f i) H) : rU f (.int i) H Q := ⟨i, rfl, q⟩
theorem r_ixL {p : Addr} {xs : List V} (h : SqL K H p xs) (ha : atI xs i = some v) (q : Q v H) : rIxL K (.ref p) (.int i) H Q := ⟨p, xs, i, v, rfl, rfl, h, ha, q⟩
theorem r_ixT {p : Addr} {xs : List V} (h : SqT K H p xs) (ha : atI xs i = some v) (q : Q v H) : rIxT K (.ref p) (.int i) H Q := ⟨p, xs, i, v, rfl, rfl, h, ha, q⟩
theorem r_nil (q : R [] H) : tNil σ H R := q
theorem r_cons (h : ta σ H fun x H1 => tA σ H1 fun xs H2 => R (x :: xs) H2) : tCons ta tA σ H R := h
theorem r_lst (h : tA σ H fun xs H1 => xs.length ≤ sizeLine ∧ ∀ p, H1 p = none → Q (.ref p) (upd H1 p (.lst xs))) : tLst tA σ H Q := h
theorem r_tup (h : tA σ H fun xs H1 => xs.length ≤ sizeLine ∧ ∀ p, H1 p = none → Q (.ref p) (upd H1 p (.tup xs))) : tTup tA σ H Q := h
theorem r_call {sp : Sp} {dvs : List V} {E : XK} (h : tA σ H fun vs H1 => sp (vs ++ dvs) H1 Q E) : tCall sp dvs E tA σ H Q := h
theorem r_callK {sp : Sp} {gV : List V → List V → List V} {E : XK} {tk : TA} (h : tA σ H fun vs H1 => tk σ H1 fun zs H2 => sp (gV vs zs) H2 Q E) : tCallK sp gV E tA tk σ H Q := h
theorem r_cb {r : List V → Hp → VK → Prop} (h : tA σ H fun vs H1 => r vs H1 Q) : tCB r tA σ H Q := h
theorem r_ckw {r : List V → List V → Hp → VK → Prop} {tk : TA} (h : tA σ H fun vs H1 => tk σ H1 fun zs H2 => r vs zs H2 Q) : tCKw r tA tk σ H Q := h
theorem r_sl {r : V → Option Int → Option Int → Hp → VK → Prop} {tl th : TO} (h : te σ H fun x H1 => tl σ H1 fun l H2 => th σ H2 fun u H3 => r x l u H3 Q) : tSl r te tl th σ H Q := h
theorem r_part {Qo : Option Int → Hp → Prop} (h : te σ H fun x H1 => ∃ i, x = .int i ∧ Qo (some i) H1) : tPart te σ H Qo := h
theorem r_nopart {Qo : Option Int → Hp → Prop} (h : Qo none H) : tNoPart σ H Qo := h
theorem r_exi {Qo : Int → Prop} (h : Qo i) : ∃ j, V.int i = .int j ∧ Qo j := ⟨i, rfl, h⟩
theorem r_exb {b : Bool} {Qo : Bool → Prop} (h : Qo b) : ∃ j, V.bl b = .bl j ∧ Qo j := ⟨b, rfl, h⟩
theorem r_slL {p : Addr} {xs : List V} {lo hi : Option Int} (h : SqL K H p xs) (q : ∀ n, H n = none → Q (.ref n) (upd H n (.lst (cutV xs lo hi)))) : rSlL K (.ref p) lo hi H Q := ⟨p, xs, rfl, h, q⟩
theorem r_bm {T : String} {r : V → List V → Hp → VK → Prop} (h : te σ H fun x H1 => tyV K T x H1 ∧ tA σ H1 fun xs H2 => r x xs H2 Q) : tBM K T r te tA σ H Q := h
theorem r_bm0 {T : String} {r : V → List V → Hp → VK → Prop} (h : te σ H fun x H1 => tyV K T x H1 ∧ r x [] H1 Q) : tBM0 K T r te σ H Q := h
theorem ty_list {p : Addr} {xs : List V} (h : SqL K H p xs) : tyV K "list" (.ref p) H := .inl ⟨rfl, xs, h⟩
theorem r_append {p : Addr} {xs : List V} {y : V} (h : H p = some (.lst xs)) (hz : xs.length < sizeLine) (q : Q .non (upd H p (.lst (xs ++ [y])))) : rAppend (.ref p) [y] H Q := ⟨p, xs, y, rfl, rfl, h, hz, q⟩
theorem r_if {tif : TT} (h : tif σ H fun c H1 => if c = true then ta σ H1 Q else tb σ H1 Q) : tIf tif ta tb σ H Q := h
theorem r_andV (h : ta σ H fun x H1 => ∃ c, x = .bl c ∧ if c = true then tb σ H1 Q else Q (.bl false) H1) : tAndV ta tb σ H Q := h
theorem r_orV (h : ta σ H fun x H1 => ∃ c, x = .bl c ∧ if c = true then Q (.bl true) H1 else tb σ H1 Q) : tOrV ta tb σ H Q := h
theorem r_notV (h : ta σ H fun x H1 => ∃ c, x = .bl c ∧ Q (.bl (!c)) H1) : tNotV ta σ H Q := h
theorem r_eqI (q : Q (.bl (decide (i = j))) H) : rEq (.int i) (.int j) H Q := by
  refine ⟨rfl, ?_⟩
  have : decide (V.int i = V.int j) = decide (i = j) := by simp
  rw [this]
  exact q
theorem r_neI (q : Q (.bl (!decide (i = j))) H) : rNe (.int i) (.int j) H Q := by
  refine ⟨rfl, ?_⟩
  have : decide (V.int i = V.int j) = decide (i = j) := by simp
  rw [this]
  exact q
theorem r_eqS {a b : Str} (q : Q (.bl (decide (a = b))) H) : rEq (.str a) (.str b) H Q := by
  refine ⟨rfl, ?_⟩
  have : decide (V.str a = V.str b) = decide (a = b) := by simp
  rw [this]
  exact q
theorem r_neS {a b : Str} (q : Q (.bl (!decide (a = b))) H) : rNe (.str a) (.str b) H Q := by
  refine ⟨rfl, ?_⟩
  have : decide (V.str a = V.str b) = decide (a = b) := by simp
  rw [this]
  exact q
theorem r_len {p : Addr} {xs : List V} (h : SqL K H p xs) (q : Q (.int xs.length) H) : Xk.rLen K [.ref p] H Q := ⟨p, xs, rfl, .inl h, q⟩
theorem r_listOf {p : Addr} {xs : List V} (h : SqL K H p xs) (q : ∀ l, H l = none → Q (.ref l) (upd H l (.lst xs))) : rListOf K [.ref p] H Q := ⟨p, xs, rfl, .inl h, q⟩
theorem r_sum {p : Addr} {ns : List Int} (h : SqL K H p (ns.map V.int)) (q : Q (.int ns.sum) H) : rSum K [.ref p] H Q := ⟨p, ns, rfl, h, q⟩
theorem r_notT {A B : Prop} (h : B) : if (!true) = true then A else B := by simpa using h
theorem r_notF {A B : Prop} (h : A) : if (!false) = true then A else B := by simpa using h
/-! ### tests -/
theorem r_test (h : te σ H fun x H' => ∃ k, x = .bl k ∧ Qb k H') : tTest te σ H Qb := h
theorem r_tB (h : te σ H fun x H' => ∃ k, x = .bl k ∧ Qb k H') : tB te σ H Qb := h
theorem r_tand (h : t σ H fun c H1 => if c = true then u σ H1 Qb else Qb false H1) : tAnd t u σ H Qb := h
theorem r_tor (h : t σ H fun c H1 => if c = true then Qb true H1 else u σ H1 Qb) : tOr t u σ H Qb := h
theorem r_tnot (h : t σ H fun c H1 => Qb (!c) H1) : tNot t σ H Qb := h
theorem r_yes (h : Qb true H) : tYes σ H Qb := h
theorem r_dec {p : Prop} [Decidable p] {A B : Prop} (h1 : p → A) (h2 : ¬p → B) : if decide p = true then A else B := by
  by_cases h : p
  · rw [decide_eq_true h]; exact h1 h
  · rw [decide_eq_false h]; exact h2 h
theorem r_ndec {p : Prop} [Decidable p] {A B : Prop} (h1 : ¬p → A) (h2 : p → B) : if (!decide p) = true then A else B := by
  by_cases h : p
  · rw [decide_eq_true h]; exact h2 h
  · rw [decide_eq_false h]; exact h1 h
theorem r_itT {A B : Prop} (h : A) : if true = true then A else B := by rw [if_pos rfl]; exact h
theorem r_itF {A B : Prop} (h : B) : if false = true then A else B := by rw [if_neg Bool.false_ne_true]; exact h
/-! ### statements -/
theorem r_seq (h : s1 ⟨s2 ⟨nx, rt, bk, ct⟩, rt, bk, ct⟩ σ H) : tSeq s1 s2 ⟨nx, rt, bk, ct⟩ σ H := h
theorem r_cut {u : TS} (Mid : L2.St → Hp → Prop) (h : s1 ⟨Mid, rt, bk, ct⟩ σ H) (g : ∀ σ' H', Mid σ' H' → u ⟨nx, rt, bk, ct⟩ σ' H') : C8.tCut s1 u ⟨nx, rt, bk, ct⟩ σ H := ⟨Mid, h, g⟩
theorem r_next (h : nx σ H) : tNext ⟨nx, rt, bk, ct⟩ σ H := h
theorem r_asg (h : te σ H fun x H1 => g x σ H1 nx) : tAsg te g ⟨nx, rt, bk, ct⟩ σ H := h
theorem r_ret (h : te σ H rt) : tRet te ⟨nx, rt, bk, ct⟩ σ H := h
theorem r_drop (h : te σ H fun _ H1 => nx σ H1) : tDrop te ⟨nx, rt, bk, ct⟩ σ H := h
theorem r_ifS (h : t σ H fun b H1 => if b = true then s1 ⟨nx, rt, bk, ct⟩ σ H1 else s2 ⟨nx, rt, bk, ct⟩ σ H1) : tIfS t s1 s2 ⟨nx, rt, bk, ct⟩ σ H := h
theorem r_par {a b : Nat} (h : tA σ H fun vs H1 => ∃ v w, vs = [v, w] ∧ nx ((σ.set a (some v)).set b (some w)) H1) : tPar a b tA ⟨nx, rt, bk, ct⟩ σ H := h
theorem r_ex2 {f : V → V → Prop} (h : f x y) : ∃ v w, [x, y] = [v, w] ∧ f v w := ⟨x, y, rfl, h⟩
theorem r_brk (h : bk σ H) : tBreak ⟨nx, rt, bk, ct⟩ σ H := h
theorem r_cont (h : ct σ H) : tCont ⟨nx, rt, bk, ct⟩ σ H := h
theorem r_aug {n : Nat} {ti : TIp} (h : σ[n]? = some (some x)) (q : te σ H fun y H1 => ti x y H1 fun z H2 => nx (σ.set n (some z)) H2) : tAug n te ti ⟨nx, rt, bk, ct⟩ σ H := ⟨x, h, q⟩
theorem r_ipI {f : Int → Int → Int} (q : Q (.int (f i j)) H) : ipI f (.int i) (.int j) H Q := ⟨i, j, rfl, rfl, q⟩
theorem r_for {wi : TI} (h : wi σ H fun J H1 => ∃ W : Nat → Nat → L2.St → Hp → Prop, (∃ m, W 0 m σ H1) ∧ ∀ i m σ H, W i m σ H → (J.stop i H ∧ nx σ H) ∨ (J.go i H ∧ ∃ N : L2.St → Hp → Prop, (∀ σ' H', N σ' H' → ∃ m', m' < m ∧ W (i + 1) m' σ' H') ∧
    ∀ x H', J.yld i H x H' → g x σ H' fun σ2 H2 => s1 ⟨N, rt, nx, N⟩ σ2 H2)) : tFor wi g s1 ⟨nx, rt, bk, ct⟩ σ H := h
theorem r_augS {tget : V → V → Hp → VK → Prop} {ti : TIp} {ts : TSet} (h : ta σ H fun o H1 => tb σ H1 fun i H2 => tget o i H2 fun x H3 => te σ H3 fun y H4 => ti x y H4 fun z H5 => ts o i z H5 fun H6 => nx σ H6) : tAugS ta tb te tget ti ts ⟨nx, rt, bk, ct⟩ σ H := h
/-! ### targets -/
variable {Qs : L2.St → Hp → Prop}
theorem r_name {n : Nat} (q : Qs (σ.set n (some v)) H) : gName n v σ H Qs := q
theorem r_gtup {n : Nat} {p : Addr} {xs : List V} (h : SqT K H p xs) (hl : xs.length = n) (q : gs xs σ H Qs) : gTup K n gs (.ref p) σ H Qs := ⟨p, xs, rfl, h, hl, q⟩
theorem r_gcons {vs : List V} (q : g v σ H fun σ' H' => gs vs σ' H' Qs) : gCons g gs (v :: vs) σ H Qs := ⟨v, vs, rfl, q⟩
theorem r_gnil (q : Qs σ H) : gNil [] σ H Qs := ⟨rfl, q⟩
theorem r_gsub {ts : TSet} (h : te σ H fun o H1 => tv σ H1 fun i H2 => ts o i v H2 fun H3 => Qs σ H3) : gSub te tv ts v σ H Qs := h
theorem r_gslc {tl th : TO} (h : te σ H fun x H1 => tl σ H1 fun l H2 => th σ H2 fun u H3 => ∃ (p b : Addr) (xs ys : List V) (a c : Int), x = .ref p ∧ v = .ref b ∧ l = some a ∧ u = some c ∧ H3 p = some (.lst xs) ∧ H3 b = some (.lst ys) ∧ p ≠ b ∧ 0 ≤ a ∧ a ≤ c ∧ c ≤ xs.length ∧ xs.length + ys.length ≤ sizeLine ∧
    Qs σ (upd H3 p (.lst (xs.take a.toNat ++ ys ++ xs.drop c.toNat)))) : gSlc te tl th v σ H Qs := h
theorem r_setL {Qh : Hp → Prop} {p : Addr} {xs : List V} {n : Nat} (h : H p = some (.lst xs)) (hi : ixN xs.length i = some n) (q : Qh (upd H p (.lst (xs.set n v)))) : rSetL (.ref p) (.int i) v H Qh := ⟨p, xs, i, n, rfl, rfl, h, hi, q⟩
end
theorem szL {n : Nat} (h : Nat.ble n 16777216 = true) : n ≤ sizeLine := Nat.le_of_ble_eq_true h
theorem at_0 {x : V} {xs : List V} : atI (x :: xs) 0 = some x := at_of (j := 0) rfl rfl
theorem at_1 {x y : V} {xs : List V} : atI (x :: y :: xs) 1 = some y := at_of (j := 1) rfl rfl
theorem at_2 {x y z : V} {xs : List V} : atI (x :: y :: z :: xs) 2 = some z := at_of (j := 2) rfl rfl
theorem at_3 {x y z u : V} {xs : List V} : atI (x :: y :: z :: u :: xs) 3 = some u := at_of (j := 3) rfl rfl
theorem sq {K : PySem.W.Frag} {H : Hp} {p : Addr} {xs : List V} (h : H p = some (.lst xs)) : SqL K H p xs := .inl (.inl h)
theorem sqT {K : PySem.W.Frag} {H : Hp} {p : Addr} {xs : List V} (h : H p = some (.tup xs)) : SqT K H p xs := .inl (.inl h)

section
variable {w : World} {H : Hp} {σ : L2.St} {Q : VK} {te : TE} {tA : TA} {a : Addr} {k : Int} {S : Int → Bool} {n : Nat}
theorem r_set0 (q : ∀ p, H p = none → Q (.ref p) (upd H p (SetO w p (fun _ => false) 0))) : rSet0 w [] H Q := ⟨rfl, q⟩
theorem r_sin (h : H a = some (SetO w a S n)) (q : Q (.bl (S k)) H) : rSIn w (.int k) (.ref a) H Q := ⟨k, a, S, n, rfl, rfl, h, q⟩
theorem r_snotin (h : H a = some (SetO w a S n)) (q : Q (.bl (!S k)) H) : rSNotIn w (.int k) (.ref a) H Q := ⟨k, a, S, n, rfl, rfl, h, q⟩
theorem r_sadd0 (h : te σ H fun x H1 => (∃ a S n, x = V.ref a ∧ H1 a = some (SetO w a S n)) ∧ tA σ H1 fun xs H2 => rSAdd w x xs H2 Q) : tSAdd w te tA σ H Q := h
theorem r_sadd (h : H a = some (SetO w a S n)) (hn : n + 1 < 4096) (q : Q .non (upd H a (SetO w a (fun j => S j || decide (j = k)) (if S k = true then n else n + 1)))) : rSAdd w (.ref a) [.int k] H Q := ⟨a, k, S, n, rfl, rfl, h, hn, q⟩
end
/-! ### what a for walks -/
section
variable {K : PySem.W.Frag} {σ : L2.St} {H : Hp} {tA : TA} {te : TE} {R : L2.It → Hp → Prop}
theorem r_iEnum (h : tA σ H fun vs H1 => ∃ a xs, vs = [.ref a] ∧ SqL K H1 a xs ∧ R (Ite K a) H1) : iEnum K tA σ H R := h
theorem r_iList (h : te σ H fun x H1 => ∃ a, x = .ref a ∧ (∃ xs, SqL K H1 a xs) ∧ R (Itl K a) H1) : iList K te σ H R := h
theorem r_iTup (h : te σ H fun x H1 => ∃ a, x = .ref a ∧ (∃ xs, SqT K H1 a xs) ∧ R (Itt K a) H1) : iTup K te σ H R := h
theorem r_iRng1 (h : tA σ H fun vs H1 => ∃ j : Int, vs = [.int j] ∧ -(2 ^ 62) ≤ j ∧ j < 2 ^ 62 ∧ R (Itr 0 j.toNat) H1) : iRng1 tA σ H R := h
theorem r_iRng2 (h : tA σ H fun vs H1 => ∃ i j : Int, vs = [.int i, .int j] ∧ (-(2 ^ 62) ≤ i ∧ i < 2 ^ 62 ∧ -(2 ^ 62) ≤ j ∧ j < 2 ^ 62) ∧ R (Itr i (j - i).toNat) H1) : iRng2 tA σ H R := h
theorem r_iRng3 (h : tA σ H fun vs H1 => ∃ (i j c : Int) (n : Nat), vs = [.int i, .int j, .int c] ∧ RgC i j c n ∧ R (Itc i c n) H1) : iRng3 tA σ H R := h
theorem r_iZip (h : tA σ H fun vs H1 => ∃ a b xs ys, vs = [.ref a, .ref b] ∧ SqL K H1 a xs ∧ SqL K H1 b ys ∧ R (Itz K a b) H1) : iZip K tA σ H R := h
theorem r_lc {wi : TI} {g : TG} {tt : TT} {vs : List Nat} {Q : VK} (h : wi σ H fun J H1 => ∀ D, H1 D = none → ∃ W : Nat → Nat → Hp → Prop, (∃ m, W 0 m (upd H1 D (.lst []))) ∧ ∀ i m H, W i m H →
  (J.stop i H ∧ Q (.ref D) H) ∨ (J.go i H ∧ ∃ Nx : Hp → Prop, (∀ H', Nx H' → ∃ m', m' < m ∧ W (i + 1) m' H') ∧ ∀ x H', J.yld i H x H' → g x (wipe σ vs) H' fun σ2 H2 => wipe σ2 vs = wipe σ vs ∧ tt σ2 H2 fun b H3 =>
    if b = true then te σ2 H3 fun y H4 => ∃ acc, H4 D = some (.lst acc) ∧ acc.length < sizeLine ∧ Nx (upd H4 D (.lst (acc ++ [y]))) else Nx H3)) : tLc wi g tt te vs σ H Q := h
theorem r_lrg {tr : L2.St → Hp → (Int → Int → Hp → Prop) → Prop} {Q : VK} (h : tr σ H fun a b H1 => RgOk a b ∧ ∀ q, H1 q = none → Q (.ref q) (upd H1 q (.lst (rgV a b)))) : tLstRg tr σ H Q := h
theorem r_rg1 {Q : Int → Int → Hp → Prop} (h : te σ H fun x H1 => ∃ n, x = .int n ∧ Q 0 n H1) : tRg1 te σ H Q := h
theorem r_rg2 {tb : TE} {Q : Int → Int → Hp → Prop} (h : te σ H fun x H1 => tb σ H1 fun y H2 => ∃ i j, x = .int i ∧ y = .int j ∧ Q i j H2) : tRg2 te tb σ H Q := h
theorem r_l3 {Q : VK} (h : tA σ H fun vs H1 => ∃ (i j c : Int) (n : Nat), vs = [.int i, .int j, .int c] ∧ RgC i j c n ∧ n ≤ 2 ^ 24 ∧ ∀ q, H1 q = none → Q (.ref q) (upd H1 q (.lst (rg3V i c n)))) : tLst3 tA σ H Q := h
theorem r_revL {Q : VK} (h : te σ H fun x H1 => ∃ a xs, x = .ref a ∧ SqL K H1 a xs ∧ ∀ p, H1 p = none → Q (.ref p) (upd H1 p (.lst xs.reverse))) : tRevL K te σ H Q := h
theorem r_exr {a : Addr} {f : Addr → Prop} (h : f a) : ∃ b, V.ref a = .ref b ∧ f b := ⟨a, rfl, h⟩
end
section
variable {σ : L2.St} {H : Hp} {c : TT} {tb : TS} {nx bk ct : L2.St → Hp → Prop} {rt : VK}
theorem r_while (W : Nat → L2.St → Hp → Prop) (m : Nat) (h0 : W m σ H) (hs : ∀ m σ H, W m σ H → c σ H fun b H1 => if b = true then ∃ N : L2.St → Hp → Prop, (∀ σ' H', N σ' H' → ∃ m', m' < m ∧ W m' σ' H') ∧ tb ⟨N, rt, nx, N⟩ σ H1 else nx σ H1) : tWhile c tb ⟨nx, rt, bk, ct⟩ σ H :=
  ⟨W, ⟨m, h0⟩, hs⟩
theorem r_turn {W : Nat → L2.St → Hp → Prop} {m : Nat} (h : tb ⟨fun σ' H' => ∃ m', m' < m ∧ W m' σ' H', rt, nx, fun σ' H' => ∃ m', m' < m ∧ W m' σ' H'⟩ σ H) : ∃ N : L2.St → Hp → Prop, (∀ σ' H', N σ' H' → ∃ m', m' < m ∧ W m' σ' H') ∧ tb ⟨N, rt, nx, N⟩ σ H :=
  ⟨_, fun _ _ h => h, h⟩
theorem r_itD {p : Prop} [Decidable p] {A B : Prop} (hp : p) (h : A) : if decide p = true then A else B := by rw [decide_eq_true hp]; exact h
theorem r_itDF {p : Prop} [Decidable p] {A B : Prop} (hp : ¬p) (h : B) : if decide p = true then A else B := by rw [decide_eq_false hp]; exact h
theorem r_itN {p : Prop} [Decidable p] {A B : Prop} (hp : ¬p) (h : A) : if (!decide p) = true then A else B := by rw [decide_eq_false hp]; exact h
theorem r_itNF {p : Prop} [Decidable p] {A B : Prop} (hp : p) (h : B) : if (!decide p) = true then A else B := by rw [decide_eq_true hp]; exact h
theorem r_popAt {l : Addr} {xs : List V} {i : Int} {k : Nat} {y : V} {Q : VK} (h : H l = some (.lst xs)) (e : i = (k : Int)) (hk : xs[k]? = some y) (hz : k < 2 ^ 63) (q : Q y (upd H l (.lst (xs.eraseIdx k)))) : rPopAt (.ref l) [.int i] H Q := by
  subst e
  have hl : k < xs.length := (List.getElem?_eq_some_iff.mp hk).1
  exact ⟨l, xs, k, k, y, rfl, rfl, h, by omega, by omega, seqIndex_of (by omega) (by omega), hk, q⟩
end
/-! ### what stands in a heap -/
/-- all but r stands as it was -/
def Sx (r : Addr) (H H' : Hp) : Prop := ∀ b o, b ≠ r → H b = some o → H' b = some o
section
variable {H H' : Hp} {a b r : Addr} {o u : HO}
theorem upd_old (np : H a = none) (h : H b = some u) : upd H a o b = some u := (upd_ne (ne_of_none h np)).trans h
theorem upd_to (n : b ≠ a) (h : H b = some u) : upd H a o b = some u := (upd_ne n).trans h
theorem same_to (s : Same H H') (h : H b = some u) : H' b = some u := s b u h
theorem sx_to (s : Sx r H H') (n : b ≠ r) (h : H b = some u) : H' b = some u := s b u n h
theorem sx_of (s : Same H H') : Sx r H H' := fun b o _ h => s b o h
theorem same_new (np : H a = none) : Same H (upd H a o) := fun b u h => upd_old np h
theorem same_old {H0 : Hp} (s : Same H0 H) (n : H0 a = none) : Same H0 (upd H a o) := fun b u h => upd_to (ne_of_none h n) (s b u h)
theorem Sx.refl : Sx r H H := fun _ _ _ h => h
theorem Sx.trans {H1 : Hp} (s : Sx r H H1) (t : Sx r H1 H') : Sx r H H' := fun b o n h => t b o n (s b o n h)
theorem Sx.put : Sx r H (L2.upd H r o) := fun b u n h => upd_to n h
theorem Sx.new (np : H a = none) : Sx r H (L2.upd H a o) := fun b u _ h => upd_old np h
theorem Sx.old {H0 : Hp} (s : Sx r H0 H) (n : H0 a = none) : Sx r H0 (L2.upd H a o) := fun b u hb h => upd_to (ne_of_none h n) (s b u hb h)
theorem Sx.same {H1 : Hp} (s : Sx r H H1) (t : Same H1 H') : Sx r H H' := s.trans (sx_of t)
theorem Sx.free (s : Sx r H H') (hr : H' r = some u) (h : H' a = none) : H a = none := by
  cases q : H a with
  | none => rfl
  | some o =>
    by_cases e : a = r
    · subst e; rw [hr] at h; cases h
    · rw [s a o e q] at h; cases h
end
end Xk
/-- one step whose answer is known -/
local macro_rules | `(tactic| fail "one") => `(tactic| with_reducible first
  | refine Xk.r_c ?_ | refine Xk.r_op ?_ | refine Xk.r_un ?_ | refine Xk.r_I0 ?_ | refine Xk.r_U ?_ | refine Xk.r_nil ?_ | refine Xk.r_cons ?_ | refine Xk.r_lst ?_ | refine Xk.r_tup ?_
  | refine Xk.r_call ?_ | refine Xk.r_callK ?_ | refine Xk.r_cb ?_ | refine Xk.r_ckw ?_ | refine Xk.r_sl ?_ | refine Xk.r_part ?_ | refine Xk.r_nopart ?_ | refine Xk.r_exi ?_ | refine Xk.r_exb ?_ | refine Xk.r_bm ?_ | refine Xk.r_bm0 ?_
  | refine Xk.r_if ?_ | refine Xk.r_andV ?_ | refine Xk.r_orV ?_ | refine Xk.r_notV ?_ | refine Xk.r_eqI ?_ | refine Xk.r_neI ?_ | refine Xk.r_eqS ?_ | refine Xk.r_neS ?_
  | refine Xk.r_test ?_ | refine Xk.r_tB ?_ | refine Xk.r_tand ?_ | refine Xk.r_tor ?_ | refine Xk.r_tnot ?_ | refine Xk.r_yes ?_ | refine Xk.r_itT ?_ | refine Xk.r_itF ?_ | refine Xk.r_notT ?_ | refine Xk.r_notF ?_
  | refine Xk.r_seq ?_ | refine Xk.r_next ?_ | refine Xk.r_asg ?_ | refine Xk.r_ret ?_ | refine Xk.r_drop ?_ | refine Xk.r_ifS ?_ | refine Xk.r_par ?_ | refine Xk.r_ex2 ?_ | refine Xk.r_brk ?_ | refine Xk.r_cont ?_ | refine Xk.r_ipI ?_ | refine Xk.r_for ?_
  | refine Xk.r_augS ?_ | refine Xk.r_sadd0 ?_ | refine Xk.r_iEnum ?_ | refine Xk.r_iList ?_ | refine Xk.r_iTup ?_ | refine Xk.r_iRng1 ?_ | refine Xk.r_iRng2 ?_ | refine Xk.r_iRng3 ?_ | refine Xk.r_iZip ?_ | refine Xk.r_lc ?_ | refine Xk.r_lrg ?_ | refine Xk.r_rg1 ?_ | refine Xk.r_rg2 ?_ | refine Xk.r_l3 ?_ | refine Xk.r_revL ?_ | refine Xk.r_exr ?_
  | refine Xk.r_name ?_ | refine Xk.r_gcons ?_ | refine Xk.r_gnil ?_ | refine Xk.r_gsub ?_ | refine Xk.r_gslc ?_)
local macro_rules | `(tactic| fail "ne") => `(tactic| first | assumption | (apply Ne.symm; assumption) | (exact L2.ne_of_none (by assumption) (by assumption)) | (apply Ne.symm; exact L2.ne_of_none (by assumption) (by assumption)))
/-- what stands at an address -/
local macro_rules | `(tactic| fail "hp") => `(tactic| with_reducible first
  | assumption | exact L2.upd_same
  | ((refine' Xk.upd_old ?np ?_); (case np => assumption); fail "hp")
  | ((refine' Xk.same_to ?hs ?_); (case hs => assumption); fail "hp")
  | ((refine' Xk.sx_to ?hs ?hn ?_); (case hs => assumption); (case hn => fail "ne"); fail "hp")
  | ((refine' Xk.upd_to ?hn ?_); (case hn => fail "ne"); fail "hp"))
local macro_rules | `(tactic| fail "sq") => `(tactic| ((with_reducible show L2.SqL _ _ _ _); first | (with_reducible assumption) | exact Xk.sq (by fail "hp") | (with_reducible exact L2.Same.seq (by assumption) (by assumption))))
local macro_rules | `(tactic| fail "sd") => `(tactic| first | assumption | omega | decide)
local macro_rules | `(tactic| fail "at") => `(tactic| first
  | (with_reducible exact Xk.at_0) | (with_reducible exact Xk.at_1) | (with_reducible exact Xk.at_2) | (with_reducible exact Xk.at_3)
  | ((with_reducible show L2.atI (List.set (_ :: _) _ _) _ = _); exact rfl))
local macro_rules | `(tactic| fail "ix") => `(tactic| ((with_reducible show L2.ixN (List.length (_ :: _)) _ = _); exact rfl))
local macro_rules | `(tactic| fail "two") => `(tactic| first
  | ((with_reducible refine' Xk.r_var ?hv ?_); (case hv => exact rfl))
  | ((with_reducible refine' Xk.r_aug ?hv ?_); (case hv => exact rfl))
  | ((with_reducible refine' Xk.r_ixL ?hv ?hw ?_); (case hv => fail "sq"); (case hw => fail "at"))
  | ((with_reducible refine' Xk.r_setL ?hv ?hw ?_); (case hv => fail "hp"); (case hw => fail "ix"))
  | ((with_reducible refine' Xk.r_slL ?hv ?_); (case hv => fail "sq"))
  | ((with_reducible refine' Xk.r_gtup ?hv ?hw ?_); (case hv => exact Xk.sqT (by fail "hp")); (case hw => exact rfl))
  | ((with_reducible refine' ⟨Xk.ty_list (K := _) (xs := _) ?hv, ?_⟩); (case hv => fail "sq"))
  | ((with_reducible refine' Xk.r_append ?hv ?hw ?_); (case hv => fail "hp"); (case hw => fail "sd"))
  | ((with_reducible refine' Xk.r_I (C := fun _ j => 0 < j) ?hv ?_); (case hv => (first | omega | (show (0 : Int) < _; omega) | decide)))
  | ((with_reducible refine' Xk.r_len ?hv ?_); (case hv => fail "sq"))
  | ((with_reducible refine' Xk.r_listOf ?hv ?_); (case hv => fail "sq"))
  | ((with_reducible refine' Xk.r_I (C := Xk.CPowW) ?hv ?_); (case hv => exact ⟨by decide, by decide⟩))
  | (with_reducible refine ⟨Xk.szL (by with_unfolding_all rfl), ?_⟩)
  | ((with_reducible refine' ⟨_, _, rfl, ?hv, ?_⟩); (case hv => ((with_reducible show L2.SqL _ _ _ _); fail "sq")))
  | ((with_reducible refine' ⟨⟨_, ?hv⟩, ?_⟩); (case hv => fail "sq"))
  | (with_reducible refine Or.inl ⟨_, rfl, ?_⟩) | (with_reducible refine Or.inr ⟨_, rfl, ?_⟩)
  | (with_reducible refine ⟨_, _, rfl, rfl, ?_⟩) | (with_reducible refine ⟨_, rfl, ?_⟩) | (with_reducible refine ⟨_, _, rfl, ?_⟩))
local macro_rules | `(tactic| fail "g") => `(tactic| repeat (first | fail "one" | fail "two"))

set_option Elab.async false
set_option linter.all false
set_option maxRecDepth 100000
namespace Xk
open PySem PySem.Spec PyProof.Rows L2
/-! ### slices by numbers -/
theorem cut_from {xs : List V} {z : Int} {a : Nat} (h : z = (a : Int)) : cutV xs (some z) none = xs.drop a := by
  subst h
  unfold cutV
  rw [show HT.sIx xs.length 0 (some (a : Int)) = min a xs.length from HT.sIx_nat xs.length 0 a, HT.sIx_none]
  by_cases q : a ≤ xs.length
  · rw [Nat.min_eq_left q]; exact List.take_of_length_le (by rw [List.length_drop]; omega)
  · rw [Nat.min_eq_right (by omega), List.drop_of_length_le (by omega), List.drop_of_length_le (by omega)]; simp
theorem cut_to {xs : List V} {z : Int} {b : Nat} (h : z = (b : Int)) : cutV xs none (some z) = xs.take b := by
  subst h
  unfold cutV
  rw [show HT.sIx xs.length xs.length (some (b : Int)) = min b xs.length from HT.sIx_nat xs.length xs.length b, HT.sIx_none]
  show (xs.take (min b xs.length - 0)) = _
  rw [Nat.sub_zero]
  by_cases q : b ≤ xs.length
  · rw [Nat.min_eq_left q]
  · rw [Nat.min_eq_right (by omega), List.take_of_length_le (by omega), List.take_of_length_le (by omega)]
theorem cut_mid {xs : List V} {z y : Int} {a b : Nat} (h : z = (a : Int)) (g : y = (b : Int)) (hb : b ≤ xs.length) : cutV xs (some z) (some y) = (xs.drop a).take (b - a) := by
  subst h; subst g
  unfold cutV
  rw [show HT.sIx xs.length 0 (some (a : Int)) = min a xs.length from HT.sIx_nat xs.length 0 a, show HT.sIx xs.length xs.length (some (b : Int)) = min b xs.length from HT.sIx_nat xs.length xs.length b, Nat.min_eq_left hb]
  by_cases q : a ≤ xs.length
  · rw [Nat.min_eq_left q]
  · rw [Nat.min_eq_right (by omega), show b - xs.length = 0 by omega, show b - a = 0 by omega]; rfl
theorem map_drop' {α β : Type} (f : α → β) (l : List α) (n : Nat) : (l.map f).drop n = (l.drop n).map f := by simp
theorem at_map {ns : List Int} {z : Int} {j : Nat} (e : z = (j : Int)) (h : j < ns.length) : atI (ns.map V.int) z = some (.int ns[j]) :=
  at_of e (by simp [h])
theorem ix_of {n j : Nat} {z : Int} (e : z = (j : Int)) (h : j < n) : ixN n z = some j := by
  subst e; unfold ixN; rw [if_pos (by omega), if_pos (by omega)]; simp
theorem map_set' (ns : List Int) (j : Nat) (x : Int) : (ns.map V.int).set j (V.int x) = (ns.set j x).map V.int := by simp
theorem map_snoc (ns : List Int) (x : Int) : ns.map V.int ++ [V.int x] = (ns ++ [x]).map V.int := by simp
theorem size_lt {n : Nat} (h : n < 16777216) : n < sizeLine := h
theorem size_le {n : Nat} (h : n ≤ 16777216) : n ≤ sizeLine := h

/-! ### comprehensions whose turns leave what stood -/
section
variable {J : It} {n : Nat} {G : Hp → Prop} {Y : Nat → Hp → V → Hp → Prop}
theorem forI (w : Walk J n G Y) {g : TG} {tb : TS} {nx : L2.St → Hp → Prop} {rt : VK} {σ : L2.St} {H : Hp} (Pv : Nat → L2.St → Hp → Prop) (h0 : Pv 0 σ H) (hG : ∀ i σ H, i ≤ n → Pv i σ H → G H)
    (hs : ∀ i x σ H H', i < n → Pv i σ H → Y i H x H' → g x σ H' fun σ2 H2 => tb ⟨Pv (i + 1), rt, nx, Pv (i + 1)⟩ σ2 H2) (hd : ∀ σ H, Pv n σ H → nx σ H) :
    ∃ W : Nat → Nat → L2.St → Hp → Prop, (∃ m, W 0 m σ H) ∧ ∀ i m σ H, W i m σ H →
      (J.stop i H ∧ nx σ H) ∨ (J.go i H ∧ ∃ N : L2.St → Hp → Prop, (∀ σ' H', N σ' H' → ∃ m', m' < m ∧ W (i + 1) m' σ' H') ∧ ∀ x H', J.yld i H x H' → g x σ H' fun σ2 H2 => tb ⟨N, rt, nx, N⟩ σ2 H2) :=
  for_it (D := ⟨nx, rt, fun _ _ => False, fun _ _ => False⟩) w Pv h0 hG hs hd
theorem forA {xs : List V} (w : Walk J xs.length G (YAt xs)) {g : TG} {tb : TS} {nx : L2.St → Hp → Prop} {rt : VK} {σ : L2.St} {H : Hp} (Pv : Nat → L2.St → Hp → Prop) (h0 : Pv 0 σ H) (hG : ∀ i σ H, i ≤ xs.length → Pv i σ H → G H)
    (hs : ∀ i σ H (hi : i < xs.length), Pv i σ H → g xs[i] σ H fun σ2 H2 => tb ⟨Pv (i + 1), rt, nx, Pv (i + 1)⟩ σ2 H2) (hd : ∀ σ H, Pv xs.length σ H → nx σ H) :
    ∃ W : Nat → Nat → L2.St → Hp → Prop, (∃ m, W 0 m σ H) ∧ ∀ i m σ H, W i m σ H →
      (J.stop i H ∧ nx σ H) ∨ (J.go i H ∧ ∃ N : L2.St → Hp → Prop, (∀ σ' H', N σ' H' → ∃ m', m' < m ∧ W (i + 1) m' σ' H') ∧ ∀ x H', J.yld i H x H' → g x σ H' fun σ2 H2 => tb ⟨N, rt, nx, N⟩ σ2 H2) :=
  forI w Pv h0 hG (fun i x σ H H' hi p y => by
    obtain ⟨rfl, e⟩ := y
    rw [List.getElem?_eq_getElem hi] at e
    cases e
    exact hs i σ H' hi p) hd
theorem forAI {ns : List Int} (w : Walk J (ns.map V.int).length G (YAt (ns.map V.int))) {g : TG} {tb : TS} {nx : L2.St → Hp → Prop} {rt : VK} {σ : L2.St} {H : Hp} (Pv : Nat → L2.St → Hp → Prop) (h0 : Pv 0 σ H) (hG : ∀ i σ H, i ≤ (ns.map V.int).length → Pv i σ H → G H)
    (hs : ∀ i σ H (hi : i < ns.length), Pv i σ H → g (.int ns[i]) σ H fun σ2 H2 => tb ⟨Pv (i + 1), rt, nx, Pv (i + 1)⟩ σ2 H2) (hd : ∀ σ H, Pv (ns.map V.int).length σ H → nx σ H) :
    ∃ W : Nat → Nat → L2.St → Hp → Prop, (∃ m, W 0 m σ H) ∧ ∀ i m σ H, W i m σ H →
      (J.stop i H ∧ nx σ H) ∨ (J.go i H ∧ ∃ N : L2.St → Hp → Prop, (∀ σ' H', N σ' H' → ∃ m', m' < m ∧ W (i + 1) m' σ' H') ∧ ∀ x H', J.yld i H x H' → g x σ H' fun σ2 H2 => tb ⟨N, rt, nx, N⟩ σ2 H2) :=
  forI w Pv h0 hG (fun i x σ H H' hi p y => by
    obtain ⟨rfl, e⟩ := y
    have hi' : i < ns.length := by simpa using hi
    rw [List.getElem?_map, List.getElem?_eq_getElem hi'] at e
    cases e
    exact hs i σ H' hi' p) hd
theorem forF {f : Nat → V} (w : Walk J n G (YFn f)) {g : TG} {tb : TS} {nx : L2.St → Hp → Prop} {rt : VK} {σ : L2.St} {H : Hp} (Pv : Nat → L2.St → Hp → Prop) (h0 : Pv 0 σ H) (hG : ∀ i σ H, i ≤ n → Pv i σ H → G H)
    (hs : ∀ i σ H, i < n → Pv i σ H → g (f i) σ H fun σ2 H2 => tb ⟨Pv (i + 1), rt, nx, Pv (i + 1)⟩ σ2 H2) (hd : ∀ σ H, Pv n σ H → nx σ H) :
    ∃ W : Nat → Nat → L2.St → Hp → Prop, (∃ m, W 0 m σ H) ∧ ∀ i m σ H, W i m σ H →
      (J.stop i H ∧ nx σ H) ∨ (J.go i H ∧ ∃ N : L2.St → Hp → Prop, (∀ σ' H', N σ' H' → ∃ m', m' < m ∧ W (i + 1) m' σ' H') ∧ ∀ x H', J.yld i H x H' → g x σ H' fun σ2 H2 => tb ⟨N, rt, nx, N⟩ σ2 H2) :=
  forI w Pv h0 hG (fun i x σ H H' hi p y => by
    obtain ⟨rfl, rfl⟩ := y
    exact hs i σ H' hi p) hd
theorem forP {f1 f2 : Nat → Option V} (w : Walk J n G (YPair f1 f2)) {g : TG} {tb : TS} {nx : L2.St → Hp → Prop} {rt : VK} {σ : L2.St} {H : Hp} (Pv : Nat → L2.St → Hp → Prop) (h0 : Pv 0 σ H) (hG : ∀ i σ H, i ≤ n → Pv i σ H → G H)
    (hs : ∀ i σ H T x y, i < n → Pv i σ H → f1 i = some x → f2 i = some y → H T = none → g (.ref T) σ (upd H T (.tup [x, y])) fun σ2 H2 => tb ⟨Pv (i + 1), rt, nx, Pv (i + 1)⟩ σ2 H2) (hd : ∀ σ H, Pv n σ H → nx σ H) :
    ∃ W : Nat → Nat → L2.St → Hp → Prop, (∃ m, W 0 m σ H) ∧ ∀ i m σ H, W i m σ H →
      (J.stop i H ∧ nx σ H) ∨ (J.go i H ∧ ∃ N : L2.St → Hp → Prop, (∀ σ' H', N σ' H' → ∃ m', m' < m ∧ W (i + 1) m' σ' H') ∧ ∀ x H', J.yld i H x H' → g x σ H' fun σ2 H2 => tb ⟨N, rt, nx, N⟩ σ2 H2) :=
  forI w Pv h0 hG (fun i x σ H H' hi p y => by
    obtain ⟨T, x, y, rfl, nT, rfl, e1, e2⟩ := y
    exact hs i σ H T x y hi p e1 e2 nT) hd
theorem forEI {ns : List Int} (w : Walk J (ns.map V.int).length G (YPair (fun i => some (.int (i : Nat))) (fun i => (ns.map V.int)[i]?))) {g : TG} {tb : TS} {nx : L2.St → Hp → Prop} {rt : VK} {σ : L2.St} {H : Hp} (Pv : Nat → L2.St → Hp → Prop) (h0 : Pv 0 σ H) (hG : ∀ i σ H, i ≤ (ns.map V.int).length → Pv i σ H → G H)
    (hs : ∀ i σ H T (hi : i < ns.length), Pv i σ H → H T = none → g (.ref T) σ (upd H T (.tup [.int (i : Nat), .int ns[i]])) fun σ2 H2 => tb ⟨Pv (i + 1), rt, nx, Pv (i + 1)⟩ σ2 H2) (hd : ∀ σ H, Pv (ns.map V.int).length σ H → nx σ H) :
    ∃ W : Nat → Nat → L2.St → Hp → Prop, (∃ m, W 0 m σ H) ∧ ∀ i m σ H, W i m σ H →
      (J.stop i H ∧ nx σ H) ∨ (J.go i H ∧ ∃ N : L2.St → Hp → Prop, (∀ σ' H', N σ' H' → ∃ m', m' < m ∧ W (i + 1) m' σ' H') ∧ ∀ x H', J.yld i H x H' → g x σ H' fun σ2 H2 => tb ⟨N, rt, nx, N⟩ σ2 H2) :=
  forI w Pv h0 hG (fun i x σ H H' hi p y => by
    obtain ⟨T, x, y, rfl, nT, rfl, e1, e2⟩ := y
    have hi' : i < ns.length := by simpa using hi
    cases e1
    simp only [List.getElem?_map, List.getElem?_eq_getElem hi'] at e2
    cases e2
    exact hs i σ H T hi' p nT) hd
theorem lc_same (w : Walk J n G Y) {g : TG} {tt : TT} {te : TE} {vs : List Nat} {σ : L2.St} {H0 H1 : Hp} {D : Addr} {Qd : Hp → Prop} (acc : Nat → List V) (hD : H1 D = none) (h01 : Same H0 H1) (a0 : acc 0 = [])
    (hG : ∀ H, Same H0 H → G H)
    (hs : ∀ i x H H', i < n → Same H0 H ∧ H D = some (.lst (acc i)) → Y i H x H' → g x (wipe σ vs) H' fun σ2 H2 => wipe σ2 vs = wipe σ vs ∧ tt σ2 H2 fun b H3 =>
      if b = true then te σ2 H3 fun y H4 => ∃ l, H4 D = some (.lst l) ∧ l.length < sizeLine ∧ Same H0 (upd H4 D (.lst (l ++ [y]))) ∧ (upd H4 D (.lst (l ++ [y]))) D = some (.lst (acc (i + 1))) else Same H0 H3 ∧ H3 D = some (.lst (acc (i + 1))))
    (hd : ∀ H, Same H0 H → H D = some (.lst (acc n)) → Qd H) :
    ∃ W : Nat → Nat → Hp → Prop, (∃ m, W 0 m (upd H1 D (.lst []))) ∧ ∀ i m H, W i m H →
      (J.stop i H ∧ Qd H) ∨ (J.go i H ∧ ∃ Nx : Hp → Prop, (∀ H', Nx H' → ∃ m', m' < m ∧ W (i + 1) m' H') ∧ ∀ x H', J.yld i H x H' → g x (wipe σ vs) H' fun σ2 H2 => wipe σ2 vs = wipe σ vs ∧ tt σ2 H2 fun b H3 =>
        if b = true then te σ2 H3 fun y H4 => ∃ acc, H4 D = some (.lst acc) ∧ acc.length < sizeLine ∧ Nx (upd H4 D (.lst (acc ++ [y]))) else Nx H3) :=
  lc_it w (fun i H => Same H0 H ∧ H D = some (.lst (acc i))) ⟨same_old h01 (h01.free hD), by rw [a0]; exact upd_same⟩ (fun i H _ p => hG H p.1) hs (fun H p => hd H p.1 p.2)
theorem lc_sameAI {ns : List Int} (w : Walk J (ns.map V.int).length G (YAt (ns.map V.int))) {g : TG} {tt : TT} {te : TE} {vs : List Nat} {σ : L2.St} {H0 H1 : Hp} {D : Addr} {Qd : Hp → Prop} (acc : Nat → List V) (hD : H1 D = none) (h01 : Same H0 H1) (a0 : acc 0 = [])
    (hG : ∀ H, Same H0 H → G H)
    (hs : ∀ i H (hi : i < ns.length), Same H0 H ∧ H D = some (.lst (acc i)) → g (.int ns[i]) (wipe σ vs) H fun σ2 H2 => wipe σ2 vs = wipe σ vs ∧ tt σ2 H2 fun b H3 =>
      if b = true then te σ2 H3 fun y H4 => ∃ l, H4 D = some (.lst l) ∧ l.length < sizeLine ∧ Same H0 (upd H4 D (.lst (l ++ [y]))) ∧ (upd H4 D (.lst (l ++ [y]))) D = some (.lst (acc (i + 1))) else Same H0 H3 ∧ H3 D = some (.lst (acc (i + 1))))
    (hd : ∀ H, Same H0 H → H D = some (.lst (acc ns.length)) → Qd H) :
    ∃ W : Nat → Nat → Hp → Prop, (∃ m, W 0 m (upd H1 D (.lst []))) ∧ ∀ i m H, W i m H →
      (J.stop i H ∧ Qd H) ∨ (J.go i H ∧ ∃ Nx : Hp → Prop, (∀ H', Nx H' → ∃ m', m' < m ∧ W (i + 1) m' H') ∧ ∀ x H', J.yld i H x H' → g x (wipe σ vs) H' fun σ2 H2 => wipe σ2 vs = wipe σ vs ∧ tt σ2 H2 fun b H3 =>
        if b = true then te σ2 H3 fun y H4 => ∃ acc, H4 D = some (.lst acc) ∧ acc.length < sizeLine ∧ Nx (upd H4 D (.lst (acc ++ [y]))) else Nx H3) :=
  lc_same w acc hD h01 a0 hG (fun i x H H' hi p y => by
    obtain ⟨rfl, e⟩ := y
    have hi' : i < ns.length := by simpa using hi
    rw [List.getElem?_map, List.getElem?_eq_getElem hi'] at e
    cases e
    exact hs i H' hi' p) (fun H p q => hd H p (by simpa using q))
theorem lc_sameEI {ns : List Int} (w : Walk J (ns.map V.int).length G (YPair (fun i => some (.int (i : Nat))) (fun i => (ns.map V.int)[i]?))) {g : TG} {tt : TT} {te : TE} {vs : List Nat} {σ : L2.St} {H0 H1 : Hp} {D : Addr} {Qd : Hp → Prop} (acc : Nat → List V) (hD : H1 D = none) (h01 : Same H0 H1) (a0 : acc 0 = [])
    (hG : ∀ H, Same H0 H → G H)
    (hs : ∀ i H T (hi : i < ns.length), Same H0 H ∧ H D = some (.lst (acc i)) → H T = none → g (.ref T) (wipe σ vs) (upd H T (.tup [.int (i : Nat), .int ns[i]])) fun σ2 H2 => wipe σ2 vs = wipe σ vs ∧ tt σ2 H2 fun b H3 =>
      if b = true then te σ2 H3 fun y H4 => ∃ l, H4 D = some (.lst l) ∧ l.length < sizeLine ∧ Same H0 (upd H4 D (.lst (l ++ [y]))) ∧ (upd H4 D (.lst (l ++ [y]))) D = some (.lst (acc (i + 1))) else Same H0 H3 ∧ H3 D = some (.lst (acc (i + 1))))
    (hd : ∀ H, Same H0 H → H D = some (.lst (acc ns.length)) → Qd H) :
    ∃ W : Nat → Nat → Hp → Prop, (∃ m, W 0 m (upd H1 D (.lst []))) ∧ ∀ i m H, W i m H →
      (J.stop i H ∧ Qd H) ∨ (J.go i H ∧ ∃ Nx : Hp → Prop, (∀ H', Nx H' → ∃ m', m' < m ∧ W (i + 1) m' H') ∧ ∀ x H', J.yld i H x H' → g x (wipe σ vs) H' fun σ2 H2 => wipe σ2 vs = wipe σ vs ∧ tt σ2 H2 fun b H3 =>
        if b = true then te σ2 H3 fun y H4 => ∃ acc, H4 D = some (.lst acc) ∧ acc.length < sizeLine ∧ Nx (upd H4 D (.lst (acc ++ [y]))) else Nx H3) :=
  lc_same w acc hD h01 a0 hG (fun i x H H' hi p y => by
    obtain ⟨T, x, y, rfl, nT, rfl, e1, e2⟩ := y
    have hi' : i < ns.length := by simpa using hi
    cases e1
    simp only [List.getElem?_map, List.getElem?_eq_getElem hi'] at e2
    cases e2
    exact hs i H T hi' p nT) (fun H p q => hd H p (by simpa using q))
theorem lc_sameF {n : Nat} {f : Nat → V} (w : Walk J n G (YFn f)) {g : TG} {tt : TT} {te : TE} {vs : List Nat} {σ : L2.St} {H0 H1 : Hp} {D : Addr} {Qd : Hp → Prop} (acc : Nat → List V) (hD : H1 D = none) (h01 : Same H0 H1) (a0 : acc 0 = [])
    (hG : ∀ H, Same H0 H → G H)
    (hs : ∀ i H, i < n → Same H0 H ∧ H D = some (.lst (acc i)) → g (f i) (wipe σ vs) H fun σ2 H2 => wipe σ2 vs = wipe σ vs ∧ tt σ2 H2 fun b H3 =>
      if b = true then te σ2 H3 fun y H4 => ∃ l, H4 D = some (.lst l) ∧ l.length < sizeLine ∧ Same H0 (upd H4 D (.lst (l ++ [y]))) ∧ (upd H4 D (.lst (l ++ [y]))) D = some (.lst (acc (i + 1))) else Same H0 H3 ∧ H3 D = some (.lst (acc (i + 1))))
    (hd : ∀ H, Same H0 H → H D = some (.lst (acc n)) → Qd H) :
    ∃ W : Nat → Nat → Hp → Prop, (∃ m, W 0 m (upd H1 D (.lst []))) ∧ ∀ i m H, W i m H →
      (J.stop i H ∧ Qd H) ∨ (J.go i H ∧ ∃ Nx : Hp → Prop, (∀ H', Nx H' → ∃ m', m' < m ∧ W (i + 1) m' H') ∧ ∀ x H', J.yld i H x H' → g x (wipe σ vs) H' fun σ2 H2 => wipe σ2 vs = wipe σ vs ∧ tt σ2 H2 fun b H3 =>
        if b = true then te σ2 H3 fun y H4 => ∃ acc, H4 D = some (.lst acc) ∧ acc.length < sizeLine ∧ Nx (upd H4 D (.lst (acc ++ [y]))) else Nx H3) :=
  lc_same w acc hD h01 a0 hG (fun i x H H' hi p y => by
    obtain ⟨rfl, rfl⟩ := y
    exact hs i H' hi p) hd
theorem lc_add {H0 H H4 : Hp} {D : Addr} {a a' : List V} {y : V} (p : Same H0 H ∧ H D = some (.lst a)) (s : Same H H4) (hD : H0 D = none) (e : a' = a ++ [y]) (hz : a.length < sizeLine) :
    ∃ l, H4 D = some (.lst l) ∧ l.length < sizeLine ∧ Same H0 (upd H4 D (.lst (l ++ [y]))) ∧ (upd H4 D (.lst (l ++ [y]))) D = some (.lst a') :=
  ⟨a, s _ _ p.2, hz, same_old (p.1.trans s) hD, by rw [e]; exact upd_same⟩
theorem lc_skip {H0 H H4 : Hp} {D : Addr} {a a' : List V} (p : Same H0 H ∧ H D = some (.lst a)) (s : Same H H4) (e : a' = a) : Same H0 H4 ∧ H4 D = some (.lst a') := ⟨p.1.trans s, by rw [e]; exact s _ _ p.2⟩
theorem take_one {α : Type} {l : List α} {i : Nat} (hi : i < l.length) : l.take (i + 1) = l.take i ++ [l[i]] := by rw [List.take_add_one, List.getElem?_eq_getElem hi]; rfl
theorem acc_filtT {l : List Int} {f : Int → Bool} {i : Nat} (hi : i < l.length) (h : f l[i] = true) : ((l.take (i + 1)).filter f).map V.int = ((l.take i).filter f).map V.int ++ [.int l[i]] := by
  rw [take_one hi, List.filter_append, List.map_append]; simp [h]
theorem acc_filtF {l : List Int} {f : Int → Bool} {i : Nat} (hi : i < l.length) (h : f l[i] = false) : ((l.take (i + 1)).filter f).map V.int = ((l.take i).filter f).map V.int := by
  rw [take_one hi, List.filter_append, List.map_append]; simp [h]
theorem filt_len {l : List Int} {f : Int → Bool} {i : Nat} (h : l.length ≤ 1000000) : (((l.take i).filter f).map V.int).length < sizeLine := by
  rw [List.length_map]
  refine Nat.lt_of_le_of_lt (Nat.le_trans (List.length_filter_le _ _) (List.length_take_le' _ _)) (size_lt (by omega))
end
theorem erase_map {α β : Type} (f : α → β) : ∀ (l : List α) (j : Nat), (l.map f).eraseIdx j = (l.eraseIdx j).map f
  | [], _ => rfl
  | x :: r, 0 => rfl
  | x :: r, j + 1 => congrArg (f x :: ·) (erase_map f r j)
theorem erase_perm {α : Type} : ∀ (l : List α) (j : Nat) (h : j < l.length), (l[j] :: l.eraseIdx j).Perm l
  | x :: r, 0, _ => List.Perm.refl _
  | x :: r, j + 1, h => (List.Perm.swap x (r[j]'(Nat.lt_of_succ_lt_succ h)) (r.eraseIdx j)).trans ((erase_perm r j (Nat.lt_of_succ_lt_succ h)).cons x)
end Xk

set_option Elab.async false
set_option linter.all false
set_option maxRecDepth 100000
namespace Xk
open PySem PySem.Spec PyProof.Rows L2
/-! ### data -/
abbrev dI (ns : List Int) : PyData := .list (ns.map PyData.int)
section
variable {K : PySem.W.Frag} {H H' : Hp}
theorem dp_ints : ∀ ns : List Int, DpAll K H (ns.map V.int) (ns.map PyData.int)
  | [] => .nil
  | i :: r => .cons (.int i) (dp_ints r)
theorem dp_lst {a : Addr} {ns : List Int} (h : SqL K H a (ns.map V.int)) : Dp K H (.ref a) (dI ns) := .lst h (dp_ints ns)
theorem eqv_ints : ∀ ns ms : List Int, PyData.eqvAll (ns.map PyData.int) (ms.map PyData.int) = decide (ns = ms)
  | [], [] => rfl
  | [], _ :: _ => rfl
  | _ :: _, [] => rfl
  | i :: r, j :: t => by
    show ((i == j) && PyData.eqvAll (r.map PyData.int) (t.map PyData.int)) = _
    rw [eqv_ints r t]
    by_cases e : i = j
    · subst e; by_cases f : r = t
      · subst f; simp
      · simp [f]
    · simp [e]
theorem eqv_dI (ns ms : List Int) : PyData.eqv (dI ns) (dI ms) = decide (ns = ms) := eqv_ints ns ms
theorem lay_ints : ∀ ns : List Int, PyData.canLayAll0 (ns.map PyData.int) = true
  | [] => rfl
  | _ :: r => lay_ints r
theorem depth_ints : ∀ ns : List Int, PyData.depthAll (ns.map PyData.int) = 0
  | [] => rfl
  | i :: r => by show max 0 (PyData.depthAll (r.map PyData.int)) = 0; rw [depth_ints r]; rfl
theorem shaped_dI (ns : List Int) : SeqAt.shaped (dI ns) = true := by
  unfold SeqAt.shaped
  rw [Bool.and_eq_true]
  refine ⟨lay_ints ns, ?_⟩
  show decide (PyData.depthAll (ns.map PyData.int) + 1 ≤ 64) = true
  rw [depth_ints]; rfl
/-- == of two lists of ints -/
theorem r_eqL {a b : Addr} {ns ms : List Int} {Q : VK} (h : SqL K H a (ns.map V.int)) (g : SqL K H b (ms.map V.int)) (q : Q (.bl (decide (ns = ms))) H) : rEqD K (.ref a) (.ref b) H Q :=
  ⟨_, _, dp_lst h, dp_lst g, shaped_dI ns, shaped_dI ms, by rw [eqv_dI]; exact q⟩
theorem r_neL {a b : Addr} {ns ms : List Int} {Q : VK} (h : SqL K H a (ns.map V.int)) (g : SqL K H b (ms.map V.int)) (q : Q (.bl (!decide (ns = ms))) H) : rNeD K (.ref a) (.ref b) H Q :=
  ⟨_, _, dp_lst h, dp_lst g, shaped_dI ns, shaped_dI ms, by rw [eqv_dI]; exact q⟩
end

/-! ### how long a repr may be -/
def Sh (b : Nat) (d : PyData) : Prop := d.showable = true ∧ d.shown.length ≤ b
theorem Sh.mono {b c : Nat} {d : PyData} (h : Sh b d) (e : b ≤ c) : Sh c d := ⟨h.1, Nat.le_trans h.2 e⟩
theorem len_app (a b : Str) : (a ++ b).length = a.length + b.length := by
  show (a.cps ++ b.cps).size = _
  exact Array.size_append
theorem from_le : ∀ (ts : List Str) (k b : Nat) (acc : Str), (∀ t ∈ ts, t.length ≤ b) → (textFrom k acc ts).length ≤ acc.length + ts.length * (b + 2)
  | [], _, _, _, _ => by simp [textFrom]
  | t :: r, k, b, acc, h => by
    have ht := h t List.mem_cons_self
    have ih := fun acc' => from_le r (k + 1) b acc' fun t ht => h t (List.mem_cons_of_mem _ ht)
    unfold textFrom
    refine Nat.le_trans (ih _) ?_
    rw [List.length_cons, Nat.succ_mul]
    have e2 : (Str.ofString ", ").length = 2 := rfl
    have e0 : (Str.ofString "").length = 0 := rfl
    generalize r.length * (b + 2) = R
    split <;> simp only [len_app] <;> omega
theorem all_sh {b : Nat} : ∀ {ds : List PyData}, (∀ d ∈ ds, Sh b d) → PyData.showableAll ds = true ∧ ∀ t ∈ PyData.shownAll ds, t.length ≤ b
  | [], _ => ⟨rfl, fun t h => nomatch h⟩
  | d :: r, h => by
    have h1 := h d List.mem_cons_self
    have ih := all_sh fun e he => h e (List.mem_cons_of_mem _ he)
    refine ⟨?_, fun t ht => ?_⟩
    · show (d.showable && PyData.showableAll r) = true
      rw [h1.1, ih.1]; rfl
    · rcases List.mem_cons.mp (show t ∈ d.shown :: PyData.shownAll r from ht) with e | e
      · subst e; exact h1.2
      · exact ih.2 t e
theorem shown_len : ∀ ds : List PyData, (PyData.shownAll ds).length = ds.length
  | [] => rfl
  | _ :: r => congrArg (· + 1) (shown_len r)
theorem Sh.list {b : Nat} {ds : List PyData} (h : ∀ d ∈ ds, Sh b d) : Sh (ds.length * (b + 2) + 2) (.list ds) := by
  obtain ⟨h1, h2⟩ := all_sh h
  refine ⟨h1, ?_⟩
  show (listText (PyData.shownAll ds)).length ≤ _
  unfold listText
  rw [len_app]
  have := from_le (PyData.shownAll ds) 0 b "[" h2
  rw [shown_len] at this
  have e1 : ("[" : Str).length = 1 := rfl
  have e2 : ("]" : Str).length = 1 := rfl
  omega
theorem piled_le : ∀ (ts : List Str) (b : Nat), (∀ t ∈ ts, t.length ≤ b) → piled ts ≤ ts.length * (b + 2)
  | [], _, _ => by simp [piled]
  | t :: r, b, h => by
    have h1 := h t List.mem_cons_self
    have ih := piled_le r b fun e he => h e (List.mem_cons_of_mem _ he)
    have e : piled (t :: r) = t.length + 2 + piled r := by simp [piled]
    rw [e, List.length_cons, Nat.succ_mul]
    omega
theorem Sh.tuple {b : Nat} {ds : List PyData} (h : ∀ d ∈ ds, Sh b d) : Sh (ds.length * (b + 2) + 3) (.tuple ds) := by
  obtain ⟨h1, h2⟩ := all_sh h
  refine ⟨h1, ?_⟩
  show (tupleText (PyData.shownAll ds)).length ≤ _
  unfold tupleText
  rw [len_app, len_app]
  have hp := piled_le (PyData.shownAll ds) b h2
  rw [shown_len] at hp
  have e1 : ("(" : Str).length = 1 := rfl
  have e2 : (Str.ofString ",)").length = 2 := rfl
  have e3 : (Str.ofString ")").length = 1 := rfl
  by_cases q : PyData.shownAll ds = []
  · rw [q]
    have e4 : (Str.join ", " []).length = 0 := rfl
    split <;> omega
  · have := join_length_add _ q
    split <;> omega
theorem Sh.bool {b : Bool} : Sh 5 (.bool b) := ⟨rfl, by cases b <;> decide⟩
theorem Sh.none : Sh 4 .none := ⟨rfl, by decide⟩
theorem Sh.int {i : Int} {k : Nat} (hk : 0 < k) (h : i.natAbs < 10 ^ k) (h9 : k ≤ 500) : Sh (k + 1) (.int i) := by
  refine ⟨?_, ?_⟩
  · show decide (i.natAbs.log2 < 1920) = true
    rw [decide_eq_true_eq]
    by_cases z : i.natAbs = 0
    · rw [z]; decide
    · refine (Nat.log2_lt z).mpr (Nat.lt_trans h (Nat.lt_of_le_of_lt (Nat.pow_le_pow_right (by decide) h9) (by decide +kernel)))
  · show (Str.ofString (toString i)).length ≤ k + 1
    match i, h with
    | .ofNat n, h => exact Nat.le_succ_of_le (PyProof.Rows.toString_length_le (v := (n : Int)) (by omega) hk (by
        have h' : n < 10 ^ k := h
        have : ((n : Nat) : Int) < ((10 ^ k : Nat) : Int) := by omega
        simpa using this))
    | .negSucc n, h =>
      have h' : n + 1 < 10 ^ k := h
      have := PyProof.Rows.toString_length_le (v := ((n + 1 : Nat) : Int)) (by omega) hk (by
        have : ((n + 1 : Nat) : Int) < ((10 ^ k : Nat) : Int) := by omega
        simpa using this)
      rw [PyProof.Rows.ofString_length, String.length_toList] at this
      rw [PyProof.Rows.ofString_length, String.length_toList]
      show ("-" ++ toString (n + 1)).length ≤ k + 1
      rw [String.length_append]
      have e : ("-" : String).length = 1 := rfl
      have e2 : (toString ((n + 1 : Nat) : Int)) = toString (n + 1) := rfl
      rw [e2] at this
      omega
theorem Sh.ints {ns : List Int} {k : Nat} (hk : 0 < k) (h9 : k ≤ 500) (h : ∀ i ∈ ns, i.natAbs < 10 ^ k) : Sh (ns.length * (k + 3) + 2) (dI ns) := by
  have := Sh.list (b := k + 1) (ds := ns.map PyData.int) fun d hd => by
    obtain ⟨i, hi, rfl⟩ := List.mem_map.mp hd
    exact Sh.int hk (h i hi) h9
  rw [List.length_map] at this
  exact this
/-- repr(a list), in a reading -/
theorem r_repr {K : PySem.W.Frag} {H : Hp} {a : Addr} {d : PyData} {Q : VK} (h : Dp K H (.ref a) d) (hd : d.depth ≤ 60) {b : Nat} (s : Sh b d) (hb : b ≤ 16777216) (q : Q (.str d.shown) H) : rReprD K [.ref a] H Q :=
  ⟨a, d, rfl, h, s.1, hd, Nat.le_trans s.2 hb, q⟩
theorem depth_dI (ns : List Int) : (dI ns).depth ≤ 60 := by show PyData.depthAll (ns.map PyData.int) + 1 ≤ 60; rw [depth_ints]; decide
end Xk

set_option Elab.async false
set_option linter.all false
set_option maxRecDepth 100000
namespace Xk
open PySem PySem.Spec PyProof.Rows L2
/-! ### isinstance, is None, truth values compared -/
section
variable {X : Cx} (K : PySem.W.Frag)
theorem ix_seqK (hK : X.K = K := by rfl) : IxR X (rIx K) := hK ▸ ix_seq
theorem pg_unlK {es : List Expr} {g : TGs} {k : Nat} {pos : Pos} (n : Nat) (hc : X.calm = true) (h : PGs X es g) (hn : (assignEach es X.env).length = n := by rfl) (hst : (assignEach es X.env).findIdx? (·.1) = none := by rfl) (hK : X.K = K := by rfl) : PG X (.Tuple es k pos) (gUnl K n g) := hK ▸ pg_unl hc h hn hst
/-- x in xs, data of few layers -/
def rInE (K : PySem.W.Frag) : R2 := fun x y H Q => ∃ d ds, Dp K H x d ∧ Dp K H y (.list ds) ∧ SeqAt.shaped d = true ∧ SeqAt.shaped (.list ds) = true ∧ d.depth ≤ 60 ∧ Q (.bl (ds.any fun z => PyData.eqv z d)) H
theorem op_inE (hu : X.A.units + 64 < cLine) (hK : X.K = K := by rfl) : OpR X (compareOp .In) (rInE K) := by
  subst hK
  intro pins s σ H x y v u Q I rx ry h
  obtain ⟨d, ds, hd, he, sd, se, dd, q⟩ := h
  obtain ⟨as, r1⟩ := Dp.reads I d x v hd rx
  obtain ⟨bs, r2⟩ := Dp.reads I (.list ds) y u he ry
  refine SeqAt.in_list_reads r2 r1 (SeqAt.canLay_of_shaped se) (SeqAt.canLay_of_shaped sd) ?_ ⟨.bl _, H, I, rfl, q⟩
  have := Nat.min_le_right (PyData.depthAll ds) d.depth
  omega
theorem isiK (hK : X.K = K := by rfl) : CallR X (.builtin "isinstance") (rIsi K) := hK ▸ call_isi
end
section
variable {K : PySem.W.Frag} {H H' : Hp} {Q : VK} {x : V} {T t : String} {r : Bool}
theorem r_isi (ty : TyX K H x (.type t)) (e : kitB t T = some r) (q : Q (.bl r) H) : rIsi K [x, .ty T] H Q := ⟨x, .ty T, .type t, .type T, r, rfl, .ty T, ty, kit_ty e, q⟩
theorem tyx_list {a : Addr} {xs : List V} (h : SqL K H a xs) : TyX K H (.ref a) (.type "list") := by
  rcases h with (h | ⟨o, h⟩) | ⟨o, its, n, h, c, _⟩
  · exact .base (.lst h)
  · exact .base (.frz h)
  · exact .kList h c
theorem tyx_tup {a : Addr} {xs : List V} (h : SqT K H a xs) : TyX K H (.ref a) (.type "tuple") := by
  rcases h with (h | ⟨o, h⟩) | ⟨o, its, n, h, c, _⟩
  · exact .base (.tup h)
  · exact .fTuple h
  · exact .kTuple h c
theorem r_isN {A : Prop} (q : A) : V.non = V.non ∧ A := ⟨rfl, q⟩
theorem r_neB {a b : Bool} (q : Q (.bl (!decide (a = b))) H) : rNe (.bl a) (.bl b) H Q := by
  refine ⟨rfl, ?_⟩
  have e : decide (V.bl a = V.bl b) = decide (a = b) := by
    by_cases h : a = b
    · subst h; simp
    · rw [decide_eq_false h, decide_eq_false]; intro z; cases z; exact h rfl
  rw [e]; exact q
theorem r_eqB {a b : Bool} (q : Q (.bl (decide (a = b))) H) : rEq (.bl a) (.bl b) H Q := by
  refine ⟨rfl, ?_⟩
  have e : decide (V.bl a = V.bl b) = decide (a = b) := by
    by_cases h : a = b
    · subst h; simp
    · rw [decide_eq_false h, decide_eq_false]; intro z; cases z; exact h rfl
  rw [e]; exact q
theorem r_iRev {tA : TA} {σ : L2.St} {R : L2.It → Hp → Prop} (h : tA σ H fun vs H1 => ∃ a xs, vs = [.ref a] ∧ SqL K H1 a xs ∧ R (Itv K a xs.length) H1) : iRev K tA σ H R := h
theorem r_insert {l : Addr} {xs : List V} {i : Int} {y : V} (h : H l = some (.lst xs)) (hz : xs.length < sizeLine) (h0 : 0 ≤ i) (h1 : i < 2 ^ 63) (q : Q .non (upd H l (.lst (xs.take i.toNat ++ [y] ++ xs.drop i.toNat)))) :
    ∃ (l' : Addr) (xs : List V) (i' : Int) (y' : V), V.ref l = .ref l' ∧ [V.int i, y] = [.int i', y'] ∧ H l' = some (.lst xs) ∧ xs.length < sizeLine ∧ 0 ≤ i' ∧ i' < 2 ^ 63 ∧ Q .non (upd H l' (.lst (xs.take i'.toNat ++ [y'] ++ xs.drop i'.toNat))) := ⟨l, xs, i, y, rfl, rfl, h, hz, h0, h1, q⟩
theorem r_all {a : Addr} {bs : List Bool} (h : SqL K H a (bs.map V.bl)) (q : Q (.bl (bs.all id)) H) : rAll K [.ref a] H Q := ⟨a, bs, rfl, h, q⟩
theorem inv_ints (x : Int) (l : List Int) : inV (.int x) (l.map V.int) = decide (x ∈ l) := by
  unfold inV
  rw [List.any_map]
  by_cases hm : x ∈ l
  · rw [decide_eq_true hm, List.any_eq_true]
    exact ⟨_, hm, by show (_ == _) = true; simp⟩
  · rw [decide_eq_false hm, List.any_eq_false]
    intro y hy
    show ¬ (y == x) = true
    intro e
    exact hm (eq_of_beq e ▸ hy)
theorem r_gunl {gs : TGs} {σ : L2.St} {Qs : L2.St → Hp → Prop} {p : Addr} {xs : List V} {n : Nat} (h : SqL K H p xs) (hl : xs.length = n) (q : gs xs σ H Qs) : gUnl K n gs (.ref p) σ H Qs := ⟨p, xs, rfl, h, hl, q⟩
theorem r_lenT {p : Addr} {xs : List V} (h : SqT K H p xs) (q : Q (.int xs.length) H) : Xk.rLen K [.ref p] H Q := ⟨p, xs, rfl, .inr h, q⟩
theorem pow5 {i : Int} {n : Nat} {j : Int} (h : i.natAbs < 2 ^ n) (h0 : 0 ≤ j) (hj : j ≤ 5) (hn : n ≤ 20000000) : CPowW i j := by
  refine ⟨h0, ?_⟩
  have h1 := bits_le h
  have : (Builtin.Int.intBits i : Int) * j ≤ 20000000 * 5 := by
    refine Int.mul_le_mul ?_ hj h0 (by omega)
    omega
  refine Int.le_trans this (by decide)
theorem r_par3 {tA : TA} {σ : L2.St} {nx bk ct : L2.St → Hp → Prop} {rt : VK} {i j l : Nat} (h : tA σ H fun vs H1 => ∃ x y z, vs = [x, y, z] ∧ nx (((σ.set i (some x)).set j (some y)).set l (some z)) H1) : tPar3 i j l tA ⟨nx, rt, bk, ct⟩ σ H := h
theorem r_ex3 {f : V → V → V → Prop} {x y z : V} (h : f x y z) : ∃ u v w, [x, y, z] = [u, v, w] ∧ f u v w := ⟨x, y, z, rfl, h⟩
theorem r_ixQL {p : Addr} {xs : List V} {i : Int} {v : V} (h : SqL K H p xs) (ha : atI xs i = some v) (q : Q v H) : rIx K (.ref p) (.int i) H Q := .inl ⟨p, xs, i, v, rfl, rfl, h, ha, q⟩
theorem r_ixQT {p : Addr} {xs : List V} {i : Int} {v : V} (h : SqT K H p xs) (ha : atI xs i = some v) (q : Q v H) : rIx K (.ref p) (.int i) H Q := .inr (.inl ⟨p, xs, i, v, rfl, rfl, h, ha, q⟩)
theorem r_reverse {p : Addr} {xs : List V} (h : H p = some (.lst xs)) (q : Q .non (upd H p (.lst xs.reverse))) : rReverse (.ref p) [] H Q := ⟨p, xs, rfl, rfl, h, q⟩
theorem r_extend {p b : Addr} {xs zs : List V} (h : H p = some (.lst xs)) (g : H b = some (.lst zs)) (hz : xs.length + zs.length ≤ sizeLine) (q : Q .non (upd H p (.lst (xs ++ zs)))) : rExtend (.ref p) [.ref b] H Q := ⟨p, b, xs, zs, rfl, rfl, h, g, hz, q⟩
theorem r_cat {p b : Addr} {xs ys : List V} (h : H p = some (.lst xs)) (g : H b = some (.lst ys)) (hz : xs.length + ys.length ≤ sizeLine) (q : ∀ n, H n = none → Q (.ref n) (upd H n (.lst (xs ++ ys)))) : rCat (.ref p) (.ref b) H Q := ⟨p, b, xs, ys, rfl, rfl, h, g, hz, q⟩
theorem cut_any {xs : List V} {z y : Int} {a b : Nat} (h : z = (a : Int)) (g : y = (b : Int)) : cutV xs (some z) (some y) = (xs.drop a).take (b - a) := by
  subst h; subst g
  unfold cutV
  rw [show HT.sIx xs.length 0 (some (a : Int)) = min a xs.length from HT.sIx_nat xs.length 0 a, show HT.sIx xs.length xs.length (some (b : Int)) = min b xs.length from HT.sIx_nat xs.length xs.length b]
  by_cases q : a ≤ xs.length
  · rw [Nat.min_eq_left q]
    by_cases q2 : b ≤ xs.length
    · rw [Nat.min_eq_left q2]
    · rw [Nat.min_eq_right (by omega), List.take_of_length_le (by rw [List.length_drop]; omega), List.take_of_length_le (by rw [List.length_drop]; omega)]
  · rw [Nat.min_eq_right (show xs.length ≤ a by omega), List.drop_of_length_le (Nat.le_refl _), List.drop_of_length_le (show xs.length ≤ a by omega)]; simp
/-! ### data kept -/
theorem sqT_same {a : Addr} {xs : List V} (s : Same H H') (h : SqT K H a xs) : SqT K H' a xs := by
  rcases h with (h | ⟨o, h⟩) | h
  · exact .inl (.inl (s _ _ h))
  · exact .inl (.inr ⟨o, s _ _ h⟩)
  · exact .inr h
mutual
theorem dp_same (s : Same H H') : ∀ (d : PyData) (v : V), Dp K H v d → Dp K H' v d
  | .none, _, h => by cases h; exact .non
  | .bool b, _, h => by cases h; exact .bl b
  | .int i, _, h => by cases h; exact .int i
  | .str y, _, h => by cases h; exact .str y
  | .list ds, _, h => by
    cases h with
    | lst e a => exact .lst (s.seq e) (dp_sameAll s ds _ a)
  | .tuple ds, _, h => by
    cases h with
    | tup e a => exact .tup (sqT_same s e) (dp_sameAll s ds _ a)
  | .dict _, _, h => by cases h
theorem dp_sameAll (s : Same H H') : ∀ (ds : List PyData) (vs : List V), DpAll K H vs ds → DpAll K H' vs ds
  | [], _, h => by cases h; exact .nil
  | d :: ds, _, h => by
    cases h with
    | cons a b => exact .cons (dp_same s d _ a) (dp_sameAll s ds _ b)
end
theorem dpall_len : ∀ {vs : List V} {ds : List PyData}, DpAll K H vs ds → vs.length = ds.length
  | _, _, .nil => rfl
  | _, _, .cons _ b => congrArg (· + 1) (dpall_len b)
theorem dpall_at : ∀ {vs : List V} {ds : List PyData} (h : DpAll K H vs ds) (i : Nat) (hi : i < ds.length), ∃ v, vs[i]? = some v ∧ Dp K H v ds[i]
  | _, _, .cons a b, 0, _ => ⟨_, rfl, a⟩
  | _, _, .cons a b, i + 1, hi => dpall_at b i (Nat.lt_of_succ_lt_succ hi)
theorem depth_at : ∀ {ds : List PyData} {i : Nat} (hi : i < ds.length), ds[i].depth ≤ PyData.depthAll ds
  | d :: ds, 0, _ => Nat.le_max_left _ _
  | d :: ds, i + 1, hi => Nat.le_trans (depth_at (ds := ds) (Nat.lt_of_succ_lt_succ hi)) (Nat.le_max_right _ _)
end
end Xk

set_option Elab.async false
set_option linter.all false
set_option maxRecDepth 100000
namespace Xk
open PySem PySem.Spec PyProof.Rows L2 GenW
/-! ### for in a generator -/
section
variable {M : Model} {A : Around} {R : GenEnd} {Y : Protocol} {n : Nat} {s₀ : Shared} {c : Code} {fs : List Frame} {s : Shared} {env : Env}
  {K : Flow → Sem PySem.Fin} {H : Value → Sem PySem.Fin} {gd : Bool → Bool} {lv : List Value → List Value}
theorem seg_For {target iter : Expr} {body orelse : List Stmt} {pos : Pos} (hs : ∀ x, foldedSetIterable iter env x = pure x)
    (h : wpAny M (A.over c fs) (eval iter env) (fun x s₁ => wpAny M (A.over c fs) (pyIter x) (fun it s₂ =>
      ∀ p, Seg M A R Y n s₀ (.forLoop target it body orelse env) (M.den (.forLoop target it body orelse env))
      (.ret (fun r => ((match r with | .ok f => (.pure f : Sem Flow) | .error e => .raise e).onRaise (cameBack env)).wrap K H gd lv) none (gd false) (lv []) c p [] :: fs) s₂)
      (fun x s' => Seg M A R Y n s₀ c (H x) fs s') s₁) (fun x s' => Seg M A R Y n s₀ c (H x) fs s') s) :
    Seg M A R Y n s₀ c ((exec (.For target iter body orelse pos) env).wrap K H gd lv) fs s := by
  rw [exec_For]
  simp only [hs]
  rw [Sem.bind_eq_wrap', Sem.wrap_wrap]
  refine seg_wrap (wpAny_standAt ?_)
  rw [Sem.bind_eq_wrap', Sem.wrap_wrap]
  refine seg_wrap (wpAny_mono h (fun x s₁ h₁ => ?_) fun _ _ z => z)
  show Seg M A R Y n s₀ c (Sem.wrap K H gd lv (standAt iter.pos >>= fun _ => holding [x] (pyIter x) >>= fun it => runOwn (.forLoop target it body orelse env) env)) fs s₁
  rw [Sem.bind_eq_wrap', Sem.wrap_wrap]
  refine seg_wrap (wpAny_standAt ?_)
  rw [Sem.bind_eq_wrap', Sem.wrap_wrap]
  refine seg_wrap (wpAny_holding (wpAny_mono h₁ (fun it s₂ h₂ => ?_) fun _ _ z => z))
  exact seg_call h₂
end
section
variable {prog : Program} {w : World} {A : Around} {R : GenEnd} {Y : Protocol} {n : Nat} {s₀ : Shared} {fs : List Frame} {s : Shared} {env : Env}
/-- one turn: a next item, or the end -/
theorem seg_forLoop {target : Expr} {it : Value} {body : List Stmt}
    (h : wpAny (model prog w) (A.over (.forLoop target it body [] env) fs) (pyNext it) (fun r s' => match r with
      | none => Seg (model prog w) A R Y n s₀ (.forLoop target it body [] env) (.pure (.again (.block [] env))) fs s'
      | some v => wpAny (model prog w) (A.over (.forLoop target it body [] env) fs) (letOwnedTupleGo target it v) (fun _ s1 =>
          wpAny (model prog w) (A.over (.forLoop target it body [] env) fs) (assign target env v) (fun _ s2 =>
            Seg (model prog w) A R Y n s₀ (.forLoop target it body [] env) ((execs body env).wrap (fun f => match f with
              | .next | .cont => .pure (.again (.forLoop target it body [] env))
              | .brk => .pure (.done .next)
              | .ret v => .pure (.done (.ret v))) (fun e => (do noteFrame e env; theTreesLotGoes e : Sem Unit).wrap (fun _ => .raise e) .raise id id) id id) fs s2) (fun _ _ => False) s1) (fun _ _ => False) s')
      (fun _ _ => False) s) :
    Seg (model prog w) A R Y n s₀ (.forLoop target it body [] env) ((model prog w).den (.forLoop target it body [] env)) fs s := by
  show Seg _ A R Y n s₀ _ ((forTurn target it body [] env).onRaise (fun x => do noteFrame x env; theTreesLotGoes x)) fs s
  unfold forTurn
  rw [Sem.onRaise_eq_wrap, Sem.bind_eq_wrap', Sem.wrap_wrap]
  refine seg_wrap (wpAny_standAt ?_)
  rw [Sem.bind_eq_wrap', Sem.wrap_wrap]
  refine seg_wrap (wpAny_onRaise (wpAny_mono h (fun r s' hr => ?_) fun _ _ z => z.elim))
  cases r with
  | none => exact hr
  | some v =>
    show Seg _ A R Y n s₀ _ (Sem.wrap _ _ _ _ (letOwnedTupleGo target it v >>= _)) fs s'
    rw [Sem.bind_eq_wrap', Sem.wrap_wrap]
    refine seg_wrap (wpAny_mono hr (fun _ s1 h1 => ?_) fun _ _ z => z.elim)
    rw [Sem.bind_eq_wrap', Sem.wrap_wrap]
    refine seg_wrap (wpAny_mono h1 (fun _ s2 h2 => ?_) fun _ _ z => z.elim)
    rw [Sem.bind_eq_wrap', Sem.wrap_wrap]
    rw [Sem.wrap_congr (execs body env) _ _ (K' := fun f => match f with
          | .next | .cont => .pure (.again (.forLoop target it body [] env))
          | .brk => .pure (.done .next)
          | .ret v => .pure (.done (.ret v))) (H' := (fun e => (do noteFrame e env; theTreesLotGoes e : Sem Unit).wrap (fun _ => .raise e) .raise id id))
      (fun f => by cases f <;> rfl)
      (fun e => by first | exact Sem.bind_eq_wrap _ _ | (show (do noteFrame e env; theTreesLotGoes e : Sem Unit).bind (fun _ => .raise e) = _; rw [Sem.bind_eq_wrap]))]
    exact h2
theorem seg_block0 {c : Code} {p : Pos} {l kp : List Value} {k : Result → Sem PySem.Fin} {g : Bool}
    (h : Seg (model prog w) A R Y n s₀ c (k (.ok .next)) fs s) :
    Seg (model prog w) A R Y n s₀ (.block [] env) ((model prog w).den (.block [] env)) (.ret k none g l c p kp :: fs) s := by
  show Seg _ A R Y n s₀ _ (leafOf (.ok .next)) _ s
  exact seg_leaf (.ok .next) h
end
/-- a for whose turns may hand out: as tFor, ys is out so far -/
def tGFor (wi : TI) (g : TG) (tb : TGn) : TGn := fun D ys σ H => wi σ H fun J H1 => ∃ W : Nat → Nat → List V → L2.St → Hp → Prop, (∃ m, W 0 m ys σ H1) ∧ ∀ i m ys σ H, W i m ys σ H →
  (J.stop i H ∧ D.nx ys σ H) ∨ (J.go i H ∧ ∃ N : List V → L2.St → Hp → Prop, (∀ ys' σ' H', N ys' σ' H' → ∃ m', m' < m ∧ W (i + 1) m' ys' σ' H') ∧ ∀ x H', J.yld i H x H' → g x σ H' fun σ2 H2 => tb { D with nx := N, ct := N, bk := D.nx } ys σ2 H2)
section
variable {X : Cx}
theorem gs_for {tg iter : Expr} {body : List Stmt} {wi : TI} {g : TG} {tb : TGn} {pos : Pos} (hno : ∀ e s', X.xe e s' → False) (hc : X.calm = true) (hi : PI X tg iter wi) (hg : PG X tg g) (hb : GSs X body tb)
    (hs : ∀ x, foldedSetIterable iter X.env x = pure x := by intro _; rfl) : GS X (.For tg iter body [] pos) (tGFor wi g tb) := by
  refine ⟨fun A S ip R n ys s₀ c fs K J gd lv s σ H D gc hn k hI ht => ?_⟩
  obtain ⟨acc, cc, r, I⟩ := hI
  refine seg_For hs ?_
  rw [gc.over]
  refine wpAny_mono (hi.run _ s σ H _ I ht) (fun v s1 h1 => wpAny_mono h1 (fun itv s2 h2 => ?_) fun x s' hx => (hno x s' hx).elim) fun x s' hx => (hno x s' hx).elim
  obtain ⟨it, fp, tn, J', H2, e, I2, T, st2, f2, W, ⟨m0, w0⟩, turn⟩ := h2
  subst e
  have hfS : ∀ b ∈ fp, S ≠ b := fun b hb => (f2 b hb).2.2.2.2.2 (S, lstObj acc cc) (List.mem_append_right _ List.mem_cons_self)
  have stat : ∀ {H' : Hp} {acc' : Array Value} {c' : Nat}, (∀ b ∈ fp, H' b = none) → ∀ b ∈ fp, FpOk X ((S, lstObj acc' c') :: ip) H' b := fun hn b hb => ⟨hn b hb, (f2 b hb).2.1, (f2 b hb).2.2.1, (f2 b hb).2.2.2.1, (f2 b hb).2.2.2.2.1, fun p hp => by
      rcases List.mem_append.mp hp with z | z
      · exact (f2 b hb).2.2.2.2.2 p (List.mem_append_left _ z)
      · rcases List.mem_cons.mp z with z | z
        · rw [z]; exact hfS b hb
        · exact (f2 b hb).2.2.2.2.2 p (List.mem_append_right _ (List.mem_cons_of_mem _ z))⟩
  intro p
  have gl := fun (kk : Result → Sem PySem.Fin) => gc_loop (k := kk) (c' := .forLoop tg (.ref it) body [] X.env) (l := lv []) (kp := []) (p := p) gc rfl rfl
  have loop : ∀ (m i n : Nat) (ys : List V) (s₀ s : Shared) (σ : L2.St) (H : Hp), n + ys.length = sizeLine → W i m ys σ H → GI X S ip ys σ H s → tn i s.heap → (∀ b ∈ fp, H b = none) →
      Seg (model X.prog X.w) A R (GY X S) n s₀ (.forLoop tg (.ref it) body [] X.env) ((model X.prog X.w).den (.forLoop tg (.ref it) body [] X.env))
        (.ret (fun r => ((match r with | .ok f => (.pure f : Sem Flow) | .error e => .raise e).onRaise (cameBack X.env)).wrap K J gd lv) none (gd false) (lv []) c p [] :: fs) s := by
    intro m
    induction m using Nat.strongRecOn with
    | ind m ih =>
      intro i n ys s₀ s3 σ3 H3 hn w hI st3 fr3
      refine seg_forLoop ?_
      rw [(gl _).over]
      obtain ⟨acc, cc, r, I⟩ := hI
      rcases turn i m ys σ3 H3 w with ⟨stop, qn⟩ | ⟨go, N, hN, step⟩
      · refine wpAny_mono (T.done X rfl rfl rfl hc i _ s3 σ3 H3 (fun _ _ => False) I (stat fr3) st3 stop) (fun r' s4 hr4 => ?_) fun _ _ z => z
        obtain ⟨hr, I4⟩ := hr4
        subst hr
        exact seg_again rfl (seg_block0 (k.ok n ys s₀ s4 .next hn ⟨σ3, H3, ⟨acc, cc, r, I4⟩, qn⟩))
      · refine wpAny_mono (T.item X rfl rfl rfl hc i _ s3 σ3 H3 (fun _ _ => False) I (stat fr3) st3 go) (fun r' s4 hr4 => ?_) fun _ _ z => z
        obtain ⟨u, hr, h4⟩ := hr4
        subst hr
        refine wpAny_mono h4 (fun _ s5 h5 => ?_) fun _ _ z => z
        obtain ⟨x, H5, I5, r5, y5, st5, fr5⟩ := h5
        have I5' := I5.pinned (stat fr5) (T.obj _ _ st5)
        refine wpAny_mono (hg.run _ s5 σ3 H5 x u _ I5' r5 (step x H5 y5)) (fun _ s6 h6 => ?_) fun x s' hx => hno x s' hx
        obtain ⟨σ6, H6, I6, q6⟩ := h6
        have g1 := gl (fun r => ((match r with | .ok f => (.pure f : Sem Flow) | .error e => .raise e).onRaise (cameBack X.env)).wrap K J gd lv)
        have gl' : GC X S (ip ++ pinsAt fp s5.heap) A (.forLoop tg (.ref it) body [] X.env) (.ret (fun r => ((match r with | .ok f => (.pure f : Sem Flow) | .error e => .raise e).onRaise (cameBack X.env)).wrap K J gd lv) none (gd false) (lv []) c p [] :: fs) id :=
          { pn := g1.pn, apart := g1.apart, over := g1.over, split := g1.split, guard := g1.guard, gd := rfl,
            ip := fun q hq => (List.mem_append.mp hq).elim (gc.ip q) fun z => Ne.symm (hfS q.1 (of_pinsAt z).1) }
        have back : ∀ {ys' : List V} {σ7 : L2.St} {H7 : Hp} {s7 : Shared}, GI X S (ip ++ pinsAt fp s5.heap) ys' σ7 H7 s7 → GI X S ip ys' σ7 H7 s7 ∧ tn (i + 1) s7.heap ∧ ∀ b ∈ fp, H7 b = none := fun {ys' σ7 H7 s7} hI7 => by
          obtain ⟨a7, c7, r7, J7⟩ := hI7
          refine ⟨⟨a7, c7, r7, J7.pins_of fun q hq => J7.pin q (List.mem_append_right _ ?_)⟩, T.keep _ _ _ st5 fun b hb o e => (J7.pin (b, o) (List.mem_append_right _ (List.mem_cons_of_mem _ (List.mem_append_right _ (mem_pinsAt hb e))))).1, fun b hb => ?_⟩
          · rcases List.mem_cons.mp hq with z | z
            · rw [z]; exact List.mem_cons_self
            · exact List.mem_cons_of_mem _ (List.mem_append_left _ z)
          · obtain ⟨o, e, d⟩ := T.obj _ _ st5 b hb
            exact (J7.pin (b, o) (List.mem_append_right _ (List.mem_cons_of_mem _ (List.mem_append_right _ (mem_pinsAt hb e))))).2.1
        refine hb.run A S (ip ++ pinsAt fp s5.heap) R n ys s₀ _ _ _ _ id id s6 σ6 H6 { D with nx := N, ct := N, bk := D.nx } gl' hn ⟨fun n' ys' s₀' s7 f hn' hs => ?_, fun n' s₀' x s3 hx => (hno x s3 hx).elim⟩ ⟨acc, cc, r, I6⟩ q6
        cases f with
        | next =>
          obtain ⟨σ7, H7, I7, n7⟩ := hs
          obtain ⟨m', hm, w7⟩ := hN ys' σ7 H7 n7
          obtain ⟨b1, b2, b3⟩ := back I7
          exact seg_again rfl (ih m' hm (i + 1) n' ys' s₀' s7 σ7 H7 hn' w7 b1 b2 b3)
        | cont =>
          obtain ⟨σ7, H7, I7, n7⟩ := hs
          obtain ⟨m', hm, w7⟩ := hN ys' σ7 H7 n7
          obtain ⟨b1, b2, b3⟩ := back I7
          exact seg_again rfl (ih m' hm (i + 1) n' ys' s₀' s7 σ7 H7 hn' w7 b1 b2 b3)
        | brk =>
          obtain ⟨σ7, H7, I7, q7⟩ := hs
          exact seg_leaf (.ok .next) (k.ok n' ys' s₀' s7 .next hn' ⟨σ7, H7, (back I7).1, q7⟩)
        | ret v =>
          obtain ⟨x7, σ7, H7, I7, r7, q7⟩ := hs
          exact seg_leaf (.ok (.ret v)) (k.ok n' ys' s₀' s7 (.ret v) hn' ⟨x7, σ7, H7, (back I7).1, r7, q7⟩)
  exact loop m0 0 n ys s₀ s2 σ H2 hn w0 ⟨acc, cc, r, I2⟩ st2 fun b hb => (f2 b hb).1
end
/-! ### no exception leaves; a generator def by its body -/
section
variable {X : Cx} {S : Addr} {ip : List (Addr × Obj)} {ys : List V} {σ : L2.St} {H : Hp} {s : Shared} {E : Value → Shared → Prop} {D : GEnds} {f : Flow}
theorem gi_wish (h : GI X S ip ys σ H s) : GI (X.wish E) S ip ys σ H s := match h with | ⟨a, c, r, I⟩ => ⟨a, c, r, I.wish E⟩
theorem gi_unwish (h : GI (X.wish E) S ip ys σ H s) : GI X S ip ys σ H s := match h with | ⟨a, c, r, I⟩ => ⟨a, c, r, I.unwish⟩
theorem gsp_unwish (h : GSP (X.wish E) S ip D ys f s) : GSP X S ip D ys f s := by
  cases f with
  | next => obtain ⟨a, b, h1, h2⟩ := h; exact ⟨a, b, gi_unwish h1, h2⟩
  | brk => obtain ⟨a, b, h1, h2⟩ := h; exact ⟨a, b, gi_unwish h1, h2⟩
  | cont => obtain ⟨a, b, h1, h2⟩ := h; exact ⟨a, b, gi_unwish h1, h2⟩
  | ret u => obtain ⟨v, a, b, h1, h2⟩ := h; exact ⟨v, a, b, gi_unwish h1, h2⟩
theorem gss_nox {st : List Stmt} {t : TGn} (h : GSs X.nox st t) : GSs X st t := by
  refine ⟨fun A S ip R n ys s₀ c fs K J gd lv s σ H D g hn k hI ht => ?_⟩
  refine seg_imp (R := R) (Y := GY X.nox S) (fun _ _ _ _ z => z) (fun n s₀ v s kap kap' hkk hy => ?_) n (h.run A S ip R n ys s₀ c fs K J gd lv s σ H D ⟨g.pn, g.ip, g.apart, g.over, g.split, g.guard, g.gd⟩ hn ⟨fun n' ys' s₀' s' f hn' hs => ?_, fun _ _ _ _ z => z.elim⟩ (gi_wish hI) ht)
  · obtain ⟨ys, x, ip, σ, H, h1, h2, h3, h4⟩ := hy
    exact ⟨ys, x, ip, σ, H, h1, h2, gi_unwish h3, fun s' z => hkk _ _ (h4 s' z)⟩
  · refine seg_imp (R := R) (Y := GY X S) (fun _ _ _ _ z => z) (fun n s₀ v s kap kap' hkk hy => ?_) n' (k.ok n' ys' s₀' s' f hn' (gsp_unwish hs))
    obtain ⟨ys, x, ip, σ, H, h1, h2, h3, h4⟩ := hy
    exact ⟨ys, x, ip, σ, H, h1, h2, gi_wish h3, fun s' z => hkk _ _ (h4 s' z)⟩
end
section
variable {P : Program} {w : World} {K : PySem.W.Frag} {mg : Str → Option Value} {base : Heap}
theorem okGen {x qual : Str} {st : Stmt} {f : Addr} {fd : FuncData} {N ps : List Str} {k : Nat} {sp : SpG} (F : Fun K x qual st f fd) (S : GScope N ps (defScope st)) (cnt : ∀ vs H Q E, sp vs H Q E → vs.length = ps.length)
    (body : ∀ (cdv : Value) (A : Around) (ou : List Env) (t : Shared) (H : Hp) (vs : List V) (Q : List V → Hp → Prop) (E : XK) (pn : List (Addr × Obj)), Room k (A.deeper (envOfC qual (defScope st) t.heap.objs.size f cdv)) → sp vs H Q E →
      ∃ r, GSs (gcxOf P w K mg base N qual (defScope st) f cdv A ou t H E pn).nox (defBody st) r ∧ r ⟨fun ys _ H' => Q ys H', fun ys v H' => v = .non ∧ Q ys H', fun _ _ _ => False, fun _ _ _ => False⟩ [] (L2.start N vs) H) :
    GFn P w K mg base (k + 1) f fd ps sp := by
  obtain ⟨oc, od, kV, doc, pm, an, cdv, ct, osl, rfl, lk, hcd⟩ := F.ex
  refine gfn_of lk hcd S cnt fun A ou t H vs Q E pn hr hsp => ?_
  obtain ⟨r, h, q⟩ := body cdv A ou t H vs Q E pn hr hsp
  exact ⟨r, gss_nox h, q⟩
end
section
variable {X : Cx}
theorem passG {X : Cx} : Passes (CX X.prog X.w) X (fun _ _ _ => False) := fun pins σ H s e s' _ h => by
  obtain ⟨_, _, _, _, _, _, _, _, _, _, _, _, z⟩ := h
  exact z.elim
theorem noStop0 {K : PySem.W.Frag} : NoStop K (fun _ _ _ => False) := fun _ _ _ z => z.elim
theorem r_gone {D : GEnds} {ys : List V} {σ : L2.St} {H : Hp} {t u : TGn} (h : t ⟨fun ys' σ' H' => u D ys' σ' H', D.rt, D.bk, D.ct⟩ ys σ H) : tGThen t u D ys σ H := h
theorem r_gplain {D : GEnds} {ys : List V} {σ : L2.St} {H : Hp} {t : TS} (h : t ⟨D.nx ys, D.rt ys, D.bk ys, D.ct ys⟩ σ H) : tPlain t D ys σ H := h
theorem r_gyield {D : GEnds} {ys : List V} {σ : L2.St} {H : Hp} {te : TE} (hy : ys.length < sizeLine) (h : te σ H fun x H1 => D.nx (ys ++ [x]) σ H1) : tGYield te D ys σ H := ⟨hy, h⟩
theorem r_g0 {D : GEnds} {ys : List V} {σ : L2.St} {H : Hp} (h : D.nx ys σ H) : tG0 D ys σ H := h
theorem r_gfor {wi : TI} {g : TG} {tb : TGn} {D : GEnds} {ys : List V} {σ : L2.St} {H : Hp} (h : wi σ H fun J H1 => ∃ W : Nat → Nat → List V → L2.St → Hp → Prop, (∃ m, W 0 m ys σ H1) ∧ ∀ i m ys σ H, W i m ys σ H →
  (J.stop i H ∧ D.nx ys σ H) ∨ (J.go i H ∧ ∃ N : List V → L2.St → Hp → Prop, (∀ ys' σ' H', N ys' σ' H' → ∃ m', m' < m ∧ W (i + 1) m' ys' σ' H') ∧ ∀ x H', J.yld i H x H' → g x σ H' fun σ2 H2 => tb ⟨N, D.rt, D.nx, N⟩ ys σ2 H2)) : tGFor wi g tb D ys σ H := h
/-- a generator's turns over what is walked -/
theorem gforI {J : It} {n : Nat} {G : Hp → Prop} {Y : Nat → Hp → V → Hp → Prop} (w : Walk J n G Y) {g : TG} {tb : TGn} {nx : List V → L2.St → Hp → Prop} {rt : List V → VK} {ys : List V} {σ : L2.St} {H : Hp} (Pv : Nat → List V → L2.St → Hp → Prop) (h0 : Pv 0 ys σ H) (hG : ∀ i ys σ H, i ≤ n → Pv i ys σ H → G H)
    (hs : ∀ i x ys σ H H', i < n → Pv i ys σ H → Y i H x H' → g x σ H' fun σ2 H2 => tb ⟨Pv (i + 1), rt, nx, Pv (i + 1)⟩ ys σ2 H2) (hd : ∀ ys σ H, Pv n ys σ H → nx ys σ H) :
    ∃ W : Nat → Nat → List V → L2.St → Hp → Prop, (∃ m, W 0 m ys σ H) ∧ ∀ i m ys σ H, W i m ys σ H →
      (J.stop i H ∧ nx ys σ H) ∨ (J.go i H ∧ ∃ N : List V → L2.St → Hp → Prop, (∀ ys' σ' H', N ys' σ' H' → ∃ m', m' < m ∧ W (i + 1) m' ys' σ' H') ∧ ∀ x H', J.yld i H x H' → g x σ H' fun σ2 H2 => tb ⟨N, rt, nx, N⟩ ys σ2 H2) := by
  refine ⟨fun i m ys σ H => i + m = n ∧ Pv i ys σ H, ⟨n, Nat.zero_add n, h0⟩, fun i m ys σ H ⟨e, p⟩ => ?_⟩
  cases m with
  | zero =>
    have e' : i = n := e
    subst e'
    exact .inl ⟨w.stops _ (hG _ ys σ H (Nat.le_refl _) p), hd _ _ _ p⟩
  | succ m =>
    refine .inr ⟨w.goes i H (by omega) (hG i ys σ H (by omega) p), Pv (i + 1), fun ys' σ' H' q => ⟨m, Nat.lt_succ_self m, by omega, q⟩, fun x H' y => ?_⟩
    exact hs i x ys σ H H' (by omega) p (w.yields i H x H' (by omega) (hG i ys σ H (by omega) p) y)
theorem gforA {J : It} {G : Hp → Prop} {xs : List V} (w : Walk J xs.length G (YAt xs)) {g : TG} {tb : TGn} {nx : List V → L2.St → Hp → Prop} {rt : List V → VK} {ys : List V} {σ : L2.St} {H : Hp} (Pv : Nat → List V → L2.St → Hp → Prop) (h0 : Pv 0 ys σ H) (hG : ∀ i ys σ H, i ≤ xs.length → Pv i ys σ H → G H)
    (hs : ∀ i ys σ H (hi : i < xs.length), Pv i ys σ H → g xs[i] σ H fun σ2 H2 => tb ⟨Pv (i + 1), rt, nx, Pv (i + 1)⟩ ys σ2 H2) (hd : ∀ ys σ H, Pv xs.length ys σ H → nx ys σ H) :
    ∃ W : Nat → Nat → List V → L2.St → Hp → Prop, (∃ m, W 0 m ys σ H) ∧ ∀ i m ys σ H, W i m ys σ H →
      (J.stop i H ∧ nx ys σ H) ∨ (J.go i H ∧ ∃ N : List V → L2.St → Hp → Prop, (∀ ys' σ' H', N ys' σ' H' → ∃ m', m' < m ∧ W (i + 1) m' ys' σ' H') ∧ ∀ x H', J.yld i H x H' → g x σ H' fun σ2 H2 => tb ⟨N, rt, nx, N⟩ ys σ2 H2) :=
  gforI w Pv h0 hG (fun i x ys σ H H' hi p y => by
    obtain ⟨rfl, e⟩ := y
    rw [List.getElem?_eq_getElem hi] at e
    cases e
    exact hs i ys σ H' hi p) hd
end
end Xk
local macro_rules | `(tactic| fail "one") => `(tactic| with_reducible first
  | refine Xk.r_gone ?_ | refine Xk.r_gplain ?_ | refine Xk.r_g0 ?_ | refine Xk.r_gfor ?_)

set_option Elab.async false
set_option linter.all false
set_option maxRecDepth 100000
namespace Xk
open PySem PySem.Spec PyProof.Rows L2 GenW
theorem zipNoLen : typeLookup (.type "zip") "__len__" = pure none := by rw [typeLookup_type, builtinLookup_eq_fast]; kernel_rfl
theorem zipNoHint : typeLookup (.type "zip") "__length_hint__" = pure none := by rw [typeLookup_type, builtinLookup_eq_fast]; kernel_rfl
/-- a zip of two lists amid its turns, the pairs that it gave out being kept (in S) -/
def ZSt (z TI TO i1 i2 l1 l2 S : Addr) (xs ys : Array Value) (i : Nat) (h : Heap) : Prop :=
  IsPair h TI (.ref i1) (.ref i2) ∧ h.IsListIter i1 l1 i ∧ h.IsListIter i2 l2 i ∧ h.IsList l1 xs ∧ h.IsList l2 ys ∧
    ((IsZip h z TI TO .none ∧ ∃ a b, IsPair h TO a b) ∨ ∃ T f oT, IsZipHeld h z TI TO T f ∧ h.get? T = some oT ∧ T ≠ z ∧ T ≠ i1 ∧ T ≠ i2 ∧ T ≠ S ∧ ∃ oo, h.get? TO = some oo)
section
variable {X : Cx} {A : Around} {z TI TO i1 i2 l1 l2 S : Addr} {xs ys : Array Value} {vx vy : List V} {pins : List (Addr × Obj)} {σ : L2.St} {H0 : Hp} {R : Result → Shared → Prop} {res : Value}
structure ZOff (z TI TO i1 i2 l1 l2 S : Addr) : Prop where
  z : S ≠ z
  TI : S ≠ TI
  TO : S ≠ TO
  i1 : S ≠ i1
  i2 : S ≠ i2
  l1 : S ≠ l1
  l2 : S ≠ l2
/-- the pairs' tuples -/
structure Prs (H0 H : Hp) (ts : List Addr) (vx vy : List V) : Prop where
  at_ : ∀ (j : Nat) (t : Addr), ts[j]? = some t → H0 t = none ∧ ∃ x y, vx[j]? = some x ∧ vy[j]? = some y ∧ H t = some (.tup [x, y])
theorem zip_next {i : Nat} {s : Shared} {x y : Value} {E : Value → Shared → Prop} {Q : Option Value → Shared → Prop} (D : ZipApart z TI TO i1 i2 l1 l2) (off : ZOff z TI TO i1 i2 l1 l2 S) (hS : S < s.heap.objs.size) (st : ZSt z TI TO i1 i2 l1 l2 S xs ys i s.heap) (hx : xs[i]? = some x) (hy : ys[i]? = some y)
    (hQ : ∀ h', (∀ b o, b ∉ [z, TO, i1, i2] → s.heap.get? b = some o → h'.get? b = some o) → IsPair h' s.heap.objs.size x y → h'.objs.size = s.heap.objs.size + 1 →
      (∀ h'', (∀ b o, b ≠ S → h'.get? b = some o → h''.get? b = some o) → ZSt z TI TO i1 i2 l1 l2 S xs ys (i + 1) h'') → Q (some (.ref s.heap.objs.size)) { s with heap := h' }) :
    wpAny (model X.prog X.w) A (pyNext (.ref z)) Q E s := by
  obtain ⟨hTI, h1, h2, hl1, hl2, hz⟩ := st
  have big : ∀ {c o}, s.heap.get? c = some o → s.heap.objs.size ≠ c := fun e => Nat.ne_of_gt (Heap.lt_size e)
  have b1 : s.heap.objs.size ≠ i1 := let ⟨_, e, _⟩ := h1; big e
  have b2 : s.heap.objs.size ≠ i2 := let ⟨_, e, _⟩ := h2; big e
  rcases hz with ⟨hz, a, b, hTO⟩ | ⟨T, f, oT, hz, hT, r1, r2, r3, r4, oo, hoo⟩
  · refine wpAny_pyNext_zip_item D hz hTI hTO h1 h2 hl1 hl2 hx hy fun h' a1 a2 a3 a4 a5 a6 hk => ?_
    refine hQ h' (fun c o hc e => hk c o (fun q => hc (by simp [q])) (fun q => hc (by simp [q])) (fun q => hc (by simp [q])) (fun q => hc (by simp [q])) e) a5 a6 fun h'' k => ?_
    refine ⟨k _ _ off.TI.symm (hk _ _ D.TIz D.TITO D.TIi1 D.TIi2 hTI), a3.at fun o e => k _ o off.i1.symm e, a4.at fun o e => k _ o off.i2.symm e, hl1.at fun o e => k _ o off.l1.symm (hk _ o D.l1z D.l1TO D.l1i1 D.l1i2 e), hl2.at fun o e => k _ o off.l2.symm (hk _ o D.l2z D.l2TO D.l2i1 D.l2i2 e),
      .inr ⟨s.heap.objs.size, false, _, k _ _ off.z.symm a1, k _ _ (Nat.ne_of_gt hS) a5, big hz, b1, b2, Nat.ne_of_gt hS, _, k _ _ off.TO.symm a2⟩⟩
  · refine wpAny_pyNext_zip_item_held D hz hT hTI h1 h2 hl1 hl2 hx hy fun h' a1 a3 a4 a5 a6 hk => ?_
    refine hQ h' (fun c o hc e => hk c o (fun q => hc (by simp [q])) (fun q => hc (by simp [q])) (fun q => hc (by simp [q])) e) a5 a6 fun h'' k => ?_
    refine ⟨k _ _ off.TI.symm (hk _ _ D.TIz D.TIi1 D.TIi2 hTI), a3.at fun o e => k _ o off.i1.symm e, a4.at fun o e => k _ o off.i2.symm e, hl1.at fun o e => k _ o off.l1.symm (hk _ o D.l1z D.l1i1 D.l1i2 e), hl2.at fun o e => k _ o off.l2.symm (hk _ o D.l2z D.l2i1 D.l2i2 e),
      .inr ⟨T, true, oT, k _ _ off.z.symm a1, k _ _ r4 (hk _ _ r1 r2 r3 hT), r1, r2, r3, r4, oo, k _ _ off.TO.symm (hk _ _ D.TOz D.TOi1 D.TOi2 hoo)⟩⟩
theorem zip_over {i : Nat} {s : Shared} {E : Value → Shared → Prop} {Q : Option Value → Shared → Prop} (hh : A.handled = none) (D : ZipApart z TI TO i1 i2 l1 l2) (st : ZSt z TI TO i1 i2 l1 l2 S xs ys i s.heap) (he : xs[i]? = none ∨ ys[i]? = none)
    (hQ : ∀ h', (∀ b o, b ∉ [z, TO, i1, i2] → s.heap.get? b = some o → h'.get? b = some o) → Q none { s with heap := h' }) : wpAny (model X.prog X.w) A (pyNext (.ref z)) Q E s := by
  obtain ⟨hTI, h1, h2, hl1, hl2, hz⟩ := st
  rcases hz with ⟨hz, a, b, hTO⟩ | ⟨T, f, oT, hz, hT, r1, r2, r3, r4, oo, hoo⟩
  · exact wpAny_pyNext_zip_end hh D hz hTI hTO h1 h2 hl1 hl2 he fun h' hk => hQ h' fun c o hc e => hk c o (fun q => hc (by simp [q])) (fun q => hc (by simp [q])) (fun q => hc (by simp [q])) (fun q => hc (by simp [q])) e
  · exact wpAny_pyNext_zip_end_held hh D hz hT hTI h1 h2 hl1 hl2 he fun h' hk => hQ h' fun c o hc e => hk c o (fun q => hc (by simp [q])) (fun q => hc (by simp [q])) (fun q => hc (by simp [q])) e
theorem zip_drain (hh : A.handled = none) (D : ZipApart z TI TO i1 i2 l1 l2) (off : ZOff z TI TO i1 i2 l1 l2 S) (rx : Vals vx xs.toList) (ry : Vals vy ys.toList) {n : Nat} (hn : n = min vx.length vy.length) (hsz : n ≤ sizeLine)
    (hend : ∀ (H : Hp) (s' : Shared) (ts : List Addr) (acc : Array Value) (c : Nat), Inv X pins σ H s' → (∀ b ∈ [z, TO, i1, i2, S], FpOk X pins H b) → s'.heap.get? S = some (lstObj acc c) → Vals (ts.map V.ref) acc.toList → ts.length = n → Same H0 H → Prs H0 H ts vx vy → R (.ok (.ret res)) s') :
    ∀ (m i : Nat) (s : Shared) (H : Hp) (ts : List Addr) (acc : Array Value) (c : Nat), m + i = n → ZSt z TI TO i1 i2 l1 l2 S xs ys i s.heap → Inv X pins σ H s → (∀ b ∈ [z, TO, i1, i2, S], FpOk X pins H b) → s.heap.get? S = some (lstObj acc c) → Vals (ts.map V.ref) acc.toList → ts.length = i → Same H0 H → Prs H0 H ts vx vy →
      codeAny (model X.prog X.w) A (.builtin "list.extend.loop" ⟨[.ref S, .ref z, res], []⟩) R s := by
  have lx : vx.length = xs.size := by have := rx.length; simpa using this
  have ly : vy.length = ys.size := by have := ry.length; simpa using this
  intro m
  induction m with
  | zero =>
    intro i s H ts acc c hm st I fp hS rv hl sm pr
    refine codeAny_builtin F.entry_extend_loop ?_
    rw [Around.under_plainId F.plain_extend_loop _]
    show wpAny _ A.in1 (pyNext (.ref z) >>= _) _ _ s
    have hi : i = n := by omega
    have hend2 : xs[i]? = none ∨ ys[i]? = none := by
      rcases Nat.le_total vx.length vy.length with q | q
      · exact .inl (Array.getElem?_eq_none (by omega))
      · exact .inr (Array.getElem?_eq_none (by omega))
    refine wpAny_bind (zip_over (X := X) hh D st hend2 fun h' k => ?_)
    refine wpAny_pure ?_
    have I2 : Inv X pins σ H { s with heap := h' } := I.turnedL (t' := s.toks) (ch := [z, TO, i1, i2]) k fun b hb => fp b (List.mem_append_left [S] hb)
    have hSn : S ∉ [z, TO, i1, i2] := by simp [off.z, off.TO, off.i1, off.i2]
    exact hend H _ ts acc c I2 fp (k S _ hSn hS) rv (hl.trans hi) sm pr
  | succ m ih =>
    intro i s H ts acc c hm st I fp hS rv hl sm pr
    refine codeAny_builtin F.entry_extend_loop ?_
    rw [Around.under_plainId F.plain_extend_loop _]
    show wpAny _ A.in1 (pyNext (.ref z) >>= _) _ _ s
    have hix : i < xs.size := by omega
    have hiy : i < ys.size := by omega
    have ex := Array.getElem?_eq_getElem hix
    have ey := Array.getElem?_eq_getElem hiy
    have hvx : vx[i]? = some vx[i] := List.getElem?_eq_getElem (by omega)
    have hvy : vy[i]? = some vy[i] := List.getElem?_eq_getElem (by omega)
    refine wpAny_bind (zip_next (X := X) D off (Heap.lt_size hS) st ex ey fun h' k hT hz hst => ?_)
    have hSn : S ∉ [z, TO, i1, i2] := by simp [off.z, off.TO, off.i1, off.i2]
    have hS1 := k S _ hSn hS
    have hasz : acc.size = i := by
      have := rv.length
      rw [List.length_map, hl] at this
      simpa using this.symm
    show wpAny _ A.in1 (updateSeq S (·.push (.ref s.heap.objs.size)) >>= _) _ _ _
    refine wpAny_bind ?_
    refine wpAny_updateSeq hS1 rfl (wpAny_pure ⟨plainId_quiet F.plain_extend_loop _, ?_⟩) (by omega) (by show (acc.push _).size ≤ sizeLine + 1; rw [Array.size_push]; omega)
    have keep3 : ∀ b o, b ≠ S → h'.get? b = some o → (h'.update S (Obj.mapSeq (·.push (.ref s.heap.objs.size)))).get? b = some o := fun b o hbS e => (Heap.get?_update_other _ _ (Ne.symm hbS)).trans e
    have hTS : s.heap.objs.size ≠ S := Nat.ne_of_gt (Heap.lt_size hS)
    have hTn : H s.heap.objs.size = none := I.hok.fresh (Nat.le_refl _)
    have gx : RelV vx[i] xs[i] := by
      obtain ⟨u, hu, r⟩ := rx.get hvx
      have : u = xs[i] := by simpa [ex] using hu.symm
      rw [← this]; exact r
    have gy : RelV vy[i] ys[i] := by
      obtain ⟨u, hu, r⟩ := ry.get hvy
      have : u = ys[i] := by simpa [ey] using hu.symm
      rw [← this]; exact r
    have I2 : Inv X pins σ (upd H s.heap.objs.size (.tup [vx[i], vy[i]])) { s with heap := h'.update S (Obj.mapSeq (·.push (.ref s.heap.objs.size))) } :=
      I.turnedNew (t' := s.toks) (ch := [z, TO, i1, i2, S]) (fun b o hb e => keep3 b o (fun q => hb (by simp [q])) (k b o (fun q => hb (List.mem_append_left [S] q)) e)) fp (Nat.le_refl _)
        ⟨by show 2 ≤ sizeLine; decide, [xs[i], ys[i]], .cons gx (.cons gy .nil), ⟨_, keep3 _ _ hTS hT, rfl, _, rfl⟩⟩
    refine ih (i + 1) _ (upd H s.heap.objs.size (.tup [vx[i], vy[i]])) (ts ++ [s.heap.objs.size]) (acc.push (.ref s.heap.objs.size)) _ (by omega) (hst _ keep3) I2 (fun b hb => ?_) (Heap.get?_update_self _ hS1 rfl) ?_ (by rw [List.length_append, hl]; rfl) (sm.trans (same_new hTn)) ⟨fun j t e => ?_⟩
    · obtain ⟨f1, f2⟩ := fp b hb
      refine ⟨?_, f2⟩
      have hne : b ≠ s.heap.objs.size := by
        obtain ⟨hTI, ⟨o1, e1, _⟩, ⟨o2, e2, _⟩, hl1, hl2, hz'⟩ := st
        have big : ∀ {c o}, s.heap.get? c = some o → c ≠ s.heap.objs.size := fun e => Nat.ne_of_lt (Heap.lt_size e)
        have e' : b = z ∨ b = TO ∨ b = i1 ∨ b = i2 ∨ b = S := by simpa using hb
        rcases e' with q | q | q | q | q
        · rw [q]; rcases hz' with ⟨q1, _⟩ | ⟨_, _, _, q1, _⟩ <;> exact big q1
        · rw [q]; rcases hz' with ⟨_, _, _, q1⟩ | ⟨_, _, _, _, _, _, _, _, _, _, q1⟩ <;> exact big q1
        · rw [q]; exact big e1
        · rw [q]; exact big e2
        · rw [q]; exact hTS.symm
      rw [upd_ne hne]; exact f1
    · rw [List.map_append, Array.toList_push]
      exact rv.append (.cons rfl .nil)
    · by_cases hj : j < ts.length
      · rw [List.getElem?_append_left hj] at e
        obtain ⟨q1, x, y, q2, q3, q4⟩ := pr.at_ j t e
        exact ⟨q1, x, y, q2, q3, upd_old hTn q4⟩
      · rw [List.getElem?_append_right (by omega)] at e
        have e3 : j = i := by
          cases hh : j - ts.length with
          | zero => omega
          | succ k => rw [hh] at e; simp at e
        subst e3
        rw [hl, Nat.sub_self] at e
        cases e
        refine ⟨?_, _, _, hvx, hvy, upd_same⟩
        cases q : H0 s.heap.objs.size with
        | none => rfl
        | some u => rw [sm _ _ q] at hTn; cases hTn
/-- what list(zip(a, b)) gives -/
def tListZip (K : PySem.W.Frag) (ta : TA) : TE := fun σ H Q => ta σ H fun vs H1 => ∃ (a b : Addr) (xs ys : List V), vs = [.ref a, .ref b] ∧ SqL K H1 a xs ∧ SqL K H1 b ys ∧
  ∀ (ts : List Addr) (H2 : Hp) (p : Addr), Same H1 H2 → Prs H1 H2 ts xs ys → ts.length = min xs.length ys.length → H1 p = none → H2 p = some (.lst (ts.map V.ref)) → Q (.ref p) H2
theorem pe_listZip {e e2 : Expr} {ta : TA} {p pos p2 pos2 : Pos} (hc : X.calm = true) (hg : Gl X "list") (hm : X.mg "list" = none) (hgz : Gl X "zip") (hmz : X.mg "zip" = none) (ha : PA X [e, e2] ta)
    (hs : starEach [e, e2] X.env = (false, eval e X.env) :: starEach [e2] X.env := by rfl) (hpl : (backTo pos2 (starEach [e2] X.env)).any (·.1) = false := by rfl)
    (na : starEach [.Call (.Name "zip" p2) [e, e2] [] pos2] X.env = (false, eval (.Call (.Name "zip" p2) [e, e2] [] pos2) X.env) :: starEach [] X.env := by rfl) : PE X (.Call (.Name "list" p) [.Call (.Name "zip" p2) [e, e2] [] pos2] [] pos) (tListZip X.K ta) := by
  refine ⟨fun pins s σ H Q I h => ?_⟩
  refine Call_ (ld_blt I hg hm boot_list (PyProof.Rows.callWith_type1 (args_cons (Call_ (ld_blt I hgz hmz PyProof.Rows.boot_zip (PyProof.Rows.callWith_type1 (thn (ha.run pos2 pins s σ H _ I h) fun us s1 ⟨vs, H1, I1, r1, q1⟩ => ?_) hs hpl))) na) na))
  obtain ⟨a, b, xs, ys, ex, hqx, hqy, q⟩ := q1
  subst ex
  cases r1 with
  | cons r rr =>
    cases rr with
    | cons r' rr =>
      cases rr
      cases r
      cases r'
      obtain ⟨its, rv, p1, z1⟩ := I1.list hqx
      obtain ⟨its2, rv2, p2, z2⟩ := I1.list hqy
      have la : a < s1.heap.objs.size := p1.lt
      have lb : b < s1.heap.objs.size := p2.lt
      refine call_zip_2 p1.isList p2.isList fun h' hz hTI hTO h1 h2 hsz hk => args_nil ?_
      have I2 : Inv X pins σ H1 { s1 with heap := h' } := I1.kept (t' := s1.toks) hk
      have ev : EP X pins σ Q = fun u s' => ∃ v H', Inv X pins σ H' s' ∧ RelV v u ∧ Q v H' := rfl
      generalize hst : ({ heap := h', gens := s1.gens, drawn := s1.drawn, toks := s1.toks, os := s1.os } : Shared) = s2 at I2 ⊢
      have e2 : s2.heap = h' := by rw [← hst]
      have SN : h'.objs.size = s1.heap.objs.size + 5 := hsz
      refine callType_codes (Q₁ := fun obj s₁ => obj = .ref s2.heap.objs.size ∧ s₁ = { s2 with heap := s2.heap.push { cls := .type "list", data := .seq #[] } }) F.called_list (F.typeCall_list_1 _) F.entry_list_init
        (code_list_new _ ⟨rfl, rfl⟩) fun obj s₁ h₁ => ?_
      obtain ⟨rfl, rfl⟩ := h₁
      have hS : (s2.heap.push { cls := .type "list", data := .seq #[] }).get? s2.heap.objs.size = some { cls := .type "list", data := .seq #[] } := Heap.get?_push_size _ rfl
      have k1 : ∀ b o, s2.heap.get? b = some o → (s2.heap.push { cls := .type "list", data := .seq #[] }).get? b = some o := fun b o e => Heap.get?_push_of_some _ e
      have up : ∀ (h : Heap) (f : Obj → Obj), (∀ b o, s2.heap.get? b = some o → h.get? b = some o) → ∀ b o, s2.heap.get? b = some o → (h.update s2.heap.objs.size f).get? b = some o := fun h f q b o e =>
        (Heap.get?_update_other _ _ (Ne.symm (Nat.ne_of_lt (Heap.lt_size e)))).trans (q b o e)
      refine ⟨⟨_, hS, rfl⟩, F.args_list_init_2 _ _, ?_⟩
      show wpAny _ X.A.in1.in1 (do let old ← Builtin.List.listItems (.ref s2.heap.objs.size); Builtin.List.listUpdate (.ref s2.heap.objs.size) (fun _ => #[]); letGo old.toList.reverse; Builtin.List.listExtendWith (.ref s2.heap.objs.size) (.ref (s1.heap.objs.size + 4)) .none) _ _ _
      refine wpAny_bind ?_
      unfold Builtin.List.listItems
      refine wpAny_bind (wpAny_seqItems hS rfl (wpAny_pure ?_))
      show wpAny _ X.A.in1.in1 (updateSeq s2.heap.objs.size (fun _ => #[]) >>= fun _ => letGo (#[] : Array Value).toList.reverse >>= fun _ => Builtin.List.listExtendWith (.ref s2.heap.objs.size) (.ref (s1.heap.objs.size + 4)) .none) _ _ _
      refine wpAny_bind (wpAny_updateSeq hS rfl ?_)
      have hS2 := Heap.get?_update_self (Obj.mapSeq (fun _ => (#[] : Array Value))) hS rfl
      have k2 := up _ (Obj.mapSeq (fun _ => (#[] : Array Value))) k1
      refine wpAny_bind (wpAny_letGo ?_)
      unfold Builtin.List.listExtendWith
      have hz0 : IsZip s2.heap (s1.heap.objs.size + 4) (s1.heap.objs.size + 2) (s1.heap.objs.size + 3) .none := by rw [e2]; exact hz
      refine wpAny_bind (wpAny_typeOf (T := "zip") ⟨_, k2 _ _ hz0, rfl⟩ ?_)
      have hne : s2.heap.objs.size ≠ s1.heap.objs.size + 4 := by rw [e2, SN]; exact fun q => by have : (s1.heap.objs.size + 5 : Nat) = s1.heap.objs.size + 4 := q; omega
      have h1' : Builtin.List.listSameRef (.ref s2.heap.objs.size) (.ref (s1.heap.objs.size + 4)) = false := by simp [Builtin.List.listSameRef, hne]
      have h2' : (Value.type "zip" == Value.type "list") = false := by decide
      have h3' : (Value.type "zip" == Value.type "tuple") = false := by decide
      simp only [h1', h2', h3', Bool.or_false, Bool.false_eq_true, if_false]
      refine wpAny_bind (wpAny_pyIter_zip (k2 _ _ hz0) ?_)
      refine wpAny_bind (wpAny_holding ?_)
      unfold Builtin.List.listLengthHint
      refine wpAny_bind (wpAny_specialOf (T := "zip") ⟨_, k2 _ _ hz0, rfl⟩ zipNoLen ?_)
      show wpAny _ X.A.in1.in1 (specialOf (Value.ref (s1.heap.objs.size + 4)) (Str.ofString "__length_hint__") >>= _) _ _ _
      refine wpAny_bind (wpAny_specialOf (T := "zip") ⟨_, k2 _ _ hz0, rfl⟩ zipNoHint ?_)
      refine wpAny_pure ?_
      have key : ∀ (h : Heap) (c : Nat), (∀ b o, s2.heap.get? b = some o → h.get? b = some o) → h.get? s2.heap.objs.size = some (lstObj #[] c) →
          codeAny (model X.prog X.w) X.A.in1 (.builtin "list.extend.loop" ⟨[.ref s2.heap.objs.size, .ref (s1.heap.objs.size + 4), .none], []⟩) (wants (fun r s₂ => r = Value.none ∧ EP X pins σ Q (Value.ref s2.heap.objs.size) s₂) X.xe) { s2 with heap := h } := by
        intro h c k hSc
        have SN2 : s2.heap.objs.size = s1.heap.objs.size + 5 := by rw [e2]; exact SN
        have I3 : Inv X pins σ H1 { s2 with heap := h } := I2.kept (t' := s2.toks) k
        have kk : ∀ b o, h'.get? b = some o → h.get? b = some o := fun b o e => k b o (by rw [e2]; exact e)
        have fr : ∀ b, s1.heap.objs.size ≤ b → FpOk X pins H1 b := fun b hb => I1.fpOk hb (I1.hok.fresh hb)
        have off : ZOff (s1.heap.objs.size + 4) (s1.heap.objs.size + 2) (s1.heap.objs.size + 3) s1.heap.objs.size (s1.heap.objs.size + 1) a b s2.heap.objs.size := by
          rw [SN2]
          have la' : (a : Nat) < s1.heap.objs.size := la
          have lb' : (b : Nat) < s1.heap.objs.size := lb
          constructor <;> first | exact Nat.ne_of_gt (Nat.lt_of_lt_of_le la' (Nat.le_add_right _ _)) | exact Nat.ne_of_gt (Nat.lt_of_lt_of_le lb' (Nat.le_add_right _ _)) | (intro q; have q' : (s1.heap.objs.size + 5 : Nat) = _ := q; omega)
        refine zip_drain (X := X) (A := X.A.in1) (pins := pins) (σ := σ) (H0 := H1) (vx := xs) (vy := ys) (n := min xs.length ys.length) (xs := its.toArray) (ys := its2.toArray) (show X.A.in1.handled = none from I1.ok.hd hc) (PySem.W.ktu_apart s1.heap.objs.size a b la lb) off (by simpa using rv) (by simpa using rv2) rfl (Nat.le_trans (Nat.min_le_left _ _) z1)
          (fun H4 s4 ts acc c4 I4 fp4 hS4 rv4 hl4 sm4 pr4 => ?_) (min xs.length ys.length) 0 _ H1 [] #[] c rfl
          ⟨kk _ _ hTI, h1.at fun o e => kk _ o e, h2.at fun o e => kk _ o e, p1.isList.at fun o e => kk _ o (hk _ o e), p2.isList.at fun o e => kk _ o (hk _ o e), .inl ⟨kk _ _ hz, _, _, kk _ _ hTO⟩⟩ I3 (fun d hd => fr d ?_) hSc .nil rfl (Same.refl H1) ⟨fun j t e => by simp at e⟩
        · refine ⟨rfl, .ref s2.heap.objs.size, upd H4 s2.heap.objs.size (.lst (ts.map V.ref)), ?_, rfl, q ts _ s2.heap.objs.size (sm4.trans (same_new ?_)) ⟨fun j t e => ?_⟩ hl4 (I1.hok.fresh (by rw [SN2]; exact Nat.le_add_right _ _)) upd_same⟩
          · have fS := fp4 s2.heap.objs.size (by simp)
            have hSn : H4 s2.heap.objs.size = none := fS.1
            refine I4.call' (ch := [s2.heap.objs.size]) rfl ⟨fun b o q _ _ _ => q, fun b o q _ _ _ => ⟨o.slots, q⟩, fun b o q n hb => ?_, fun b o q _ => ⟨o, q⟩, fun b xs q => ?_, fun b o y q => ?_, fun b qs q => ⟨#[], ?_⟩⟩ (fun b u q => ?_) I4.bare (fun b hb => ?_)
            · rw [upd_ne fun q => hb (by rw [q]; exact List.mem_singleton.mpr rfl)]; exact n
            · rw [upd_ne (ne_of_none q hSn)]; exact q
            · rw [upd_ne (ne_of_none q hSn)]; exact q
            · rw [upd_ne (ne_of_none q hSn), q]; simp
            · by_cases hb : b = s2.heap.objs.size
              · subst hb
                rw [upd_same] at q
                cases q
                exact ⟨by rw [List.length_map, hl4]; exact Nat.le_trans (Nat.min_le_left _ _) z1, acc.toList, c4, rv4, by rw [hS4]⟩
              · rw [upd_ne hb] at q
                exact (I4.hok b u q).stay (fun _ _ _ z => z) (fun d z => by rw [upd_ne (ne_of_none z hSn)]; exact z) fun d xs z => by rw [upd_ne (ne_of_none z hSn)]; exact z
            · rw [List.mem_singleton.mp hb]
              exact ⟨fS.2.2.2.1, fS.2.1, fS.2.2.2.2.1, fS.2.2.2.2.2⟩
          · exact (fp4 s2.heap.objs.size (by simp)).1
          · obtain ⟨q1, x, y, q2, q3, q4⟩ := pr4.at_ j t e
            exact ⟨q1, x, y, q2, q3, upd_old (fp4 s2.heap.objs.size (by simp)).1 q4⟩
        · have hd' : d = s1.heap.objs.size + 4 ∨ d = s1.heap.objs.size + 3 ∨ d = s1.heap.objs.size ∨ d = s1.heap.objs.size + 1 ∨ d = s2.heap.objs.size := by simpa using hd
          rcases hd' with q | q | q | q | q
          · rw [q]; exact Nat.le_add_right _ _
          · rw [q]; exact Nat.le_add_right _ _
          · rw [q]; exact Nat.le_refl _
          · rw [q]; exact Nat.le_add_right _ _
          · rw [q, SN2]; exact Nat.le_add_right _ _
      simp only [Bool.true_or, if_true]
      refine wpAny_bind (wpAny_rule ?_)
      refine wpAny_bind ?_
      show wpAny _ _ (updateSeq s2.heap.objs.size (·.push .none) >>= fun _ => updateSeq s2.heap.objs.size (·.pop)) _ _ _
      refine wpAny_bind (wpAny_updateSeq hS2 rfl ?_)
      have hS3 := Heap.get?_update_self (Obj.mapSeq (·.push Value.none)) hS2 rfl
      refine wpAny_updateSeq (hz := by seq_fits) hS3 rfl ?_
      have hS4 := Heap.get?_update_self (Obj.mapSeq (·.pop)) hS3 rfl
      have k4 := up _ (Obj.mapSeq (·.pop)) (up _ (Obj.mapSeq (·.push Value.none)) k2)
      exact wpAny_pure ⟨plainId_quiet F.plain_extend_loop _, key _ _ k4 hS4⟩
end
theorem pe_listZipK (K : PySem.W.Frag) {X : Cx} {e e2 : Expr} {ta : TA} {p pos p2 pos2 : Pos} (hc : X.calm = true) (hg : Gl X "list") (hm : X.mg "list" = none) (hgz : Gl X "zip") (hmz : X.mg "zip" = none) (ha : PA X [e, e2] ta) (hK : X.K = K := by rfl)
    (hs : starEach [e, e2] X.env = (false, eval e X.env) :: starEach [e2] X.env := by rfl) (hpl : (backTo pos2 (starEach [e2] X.env)).any (·.1) = false := by rfl)
    (na : starEach [.Call (.Name "zip" p2) [e, e2] [] pos2] X.env = (false, eval (.Call (.Name "zip" p2) [e, e2] [] pos2) X.env) :: starEach [] X.env := by rfl) : PE X (.Call (.Name "list" p) [.Call (.Name "zip" p2) [e, e2] [] pos2] [] pos) (tListZip K ta) :=
  hK ▸ pe_listZip hc hg hm hgz hmz ha hs hpl na
section
variable {K : PySem.W.Frag} {σ : L2.St} {H : Hp} {Q : VK} {ta : TA}
theorem r_lzip (h : ta σ H fun vs H1 => ∃ (a b : Addr) (xs ys : List V), vs = [.ref a, .ref b] ∧ SqL K H1 a xs ∧ SqL K H1 b ys ∧
  ∀ (ts : List Addr) (H2 : Hp) (p : Addr), Same H1 H2 → Prs H1 H2 ts xs ys → ts.length = min xs.length ys.length → H1 p = none → H2 p = some (.lst (ts.map V.ref)) → Q (.ref p) H2) : tListZip K ta σ H Q := h
theorem r_listG {tg : TGen} (h : tg σ H fun out H2 => ∀ p, H2 p = none → Q (.ref p) (upd H2 p (.lst out))) : tListG tg σ H Q := h
theorem r_callGn {sp : SpG} {dvs : List V} {E : XK} {cont : List V → Hp → Prop} (h : ta σ H fun vs H1 => sp (vs ++ dvs) H1 cont E) : tCallG sp dvs E ta σ H cont := h
end
end Xk
local macro_rules | `(tactic| fail "one") => `(tactic| with_reducible first | refine Xk.r_lzip ?_ | refine Xk.r_listG ?_ | refine Xk.r_callGn ?_)

set_option Elab.async false
set_option linter.all false
set_option maxRecDepth 100000
namespace Xk
open PySem PySem.Spec PyProof.Rows L2
/-- a new object; the heap behind it is any that keeps all and has it -/
def New (Q : VK) (H : Hp) (o : HO) : Prop := ∀ p, H p = none → Q (.ref p) (upd H p o)
section
variable {K : PySem.W.Frag} {σ : L2.St} {H : Hp} {Q : VK} {o : HO} {tA : TA} {te : TE} {p b : Addr} {xs ys : List V} {ns ms : List Int}
theorem new_ (h : ∀ (p : Addr) (H' : Hp), H p = none → Same H H' → H' p = some o → Q (.ref p) H') : New Q H o := fun p np => h p _ np (same_new np) upd_same
theorem n_lst (h : tA σ H fun xs H1 => xs.length ≤ sizeLine ∧ New Q H1 (.lst xs)) : tLst tA σ H Q := h
theorem n_tup (h : tA σ H fun xs H1 => xs.length ≤ sizeLine ∧ New Q H1 (.tup xs)) : tTup tA σ H Q := h
theorem n_slL {lo hi : Option Int} (h : SqL K H p xs) (q : New Q H (.lst (cutV xs lo hi))) : rSlL K (.ref p) lo hi H Q := ⟨p, xs, rfl, h, q⟩
theorem n_slF {z : Int} {a : Nat} (h : SqL K H p (ns.map V.int)) (e : z = (a : Int)) (q : New Q H (.lst ((ns.drop a).map V.int))) : rSlL K (.ref p) (some z) none H Q :=
  n_slL h (by rw [cut_from e, ← List.map_drop]; exact q)
theorem n_slT {z : Int} {a : Nat} (h : SqL K H p (ns.map V.int)) (e : z = (a : Int)) (q : New Q H (.lst ((ns.take a).map V.int))) : rSlL K (.ref p) none (some z) H Q :=
  n_slL h (by rw [cut_to e, ← List.map_take]; exact q)
theorem n_slM {z y : Int} {a c : Nat} (h : SqL K H p (ns.map V.int)) (e : z = (a : Int)) (g : y = (c : Int)) (q : New Q H (.lst (((ns.drop a).take (c - a)).map V.int))) : rSlL K (.ref p) (some z) (some y) H Q :=
  n_slL h (by rw [cut_any e g, ← List.map_drop, ← List.map_take]; exact q)
theorem n_listOf (h : SqL K H p xs) (q : New Q H (.lst xs)) : rListOf K [.ref p] H Q := ⟨p, xs, rfl, .inl h, q⟩
theorem n_lrg {tr : L2.St → Hp → (Int → Int → Hp → Prop) → Prop} (h : tr σ H fun a b H1 => RgOk a b ∧ New Q H1 (.lst (rgV a b))) : tLstRg tr σ H Q := h
theorem n_revL (h : te σ H fun x H1 => ∃ a xs, x = .ref a ∧ SqL K H1 a xs ∧ New Q H1 (.lst xs.reverse)) : tRevL K te σ H Q := h
theorem n_cat (h : H p = some (.lst xs)) (g : H b = some (.lst ys)) (hz : xs.length + ys.length ≤ sizeLine) (q : New Q H (.lst (xs ++ ys))) : rCat (.ref p) (.ref b) H Q := ⟨p, b, xs, ys, rfl, rfl, h, g, hz, q⟩
theorem n_catI (h : H p = some (.lst (ns.map V.int))) (g : H b = some (.lst (ms.map V.int))) (hz : ns.length + ms.length ≤ 16777216) (q : New Q H (.lst ((ns ++ ms).map V.int))) : rCat (.ref p) (.ref b) H Q :=
  n_cat h g (by rw [List.length_map, List.length_map]; exact hz) (by rw [← List.map_append]; exact q)
theorem s_trans {H0 H1 H2 : Hp} (b : Same H1 H2) (a : Same H0 H1) : Same H0 H2 := a.trans b
theorem s_new {H0 H : Hp} {a : Addr} {o : HO} (np : H a = none) (s : Same H0 H) : Same H0 (upd H a o) := s.trans (same_new np)
theorem sq_new {K : PySem.W.Frag} {H : Hp} {a b : Addr} {o : HO} {xs : List V} (np : H a = none) (s : SqL K H b xs) : SqL K (upd H a o) b xs := (same_new np).seq s
theorem ne_n {H : Hp} {a b : Addr} {u : HO} (n : H b = none) (h : H a = some u) : a ≠ b := ne_of_none h n
theorem ne_n' {H : Hp} {a b : Addr} {u : HO} (n : H a = none) (h : H b = some u) : a ≠ b := (ne_of_none h n).symm
theorem c_chain {r r' : R2} {ta tb tc : TE} {σ : L2.St} {H : Hp} {Q : VK} (h : ta σ H fun x H1 => tb σ H1 fun y H2 => r x y H2 fun z H3 => ∃ k, z = .bl k ∧ (if k = true then tc σ H3 fun w' H4 => r' y w' H4 Q else Q (.bl false) H3)) : tChain r r' ta tb tc σ H Q := h
theorem n_rep {l : Addr} {n : Nat} {zs : List V} (h : H l = some (.lst zs)) (hn : n ≤ 1000000) (hz : zs.length * n ≤ 16777216) (q : New Q H (.lst (List.replicate n zs).flatten)) : rRep (.ref l) (.int (n : Int)) H Q :=
  ⟨l, n, zs, rfl, rfl, h, by omega, by omega, by rw [Int.toNat_natCast]; exact hz, fun p np => by rw [Int.toNat_natCast]; exact q p np⟩
theorem new_map {xs : List Int} {u : List V} (e : u = xs.map V.int) (h : New Q H (.lst (xs.map V.int))) : New Q H (.lst u) := e ▸ h
end
end Xk
/-- what stands in a heap, and what keeps: back along the one step that made each heap -/
local macro_rules | `(tactic| fail "kp") => `(tactic| with_reducible first
  | assumption | exact L2.upd_same | exact L2.Same.refl _
  | (apply Xk.same_to; assumption; fail "kp")
  | (apply L2.Same.seq; assumption; fail "kp")
  | (apply Xk.sx_to; assumption; fail "kpn"; fail "kp")
  | (apply Xk.upd_old; assumption; fail "kp")
  | (apply Xk.upd_to; fail "kpn"; fail "kp")
  | (apply Xk.s_trans; assumption; fail "kp")
  | (apply Xk.s_new; assumption; fail "kp")
  | (apply Xk.sq_new; assumption; fail "kp")
  | (apply Xk.sqT_same; assumption; fail "kp")
  | (apply Xk.sq; fail "kp")
  | (apply Xk.sqT; fail "kp"))
/-- another address -/
local macro_rules | `(tactic| fail "kpn") => `(tactic| with_reducible first | assumption | (apply Ne.symm; assumption) | (apply Xk.ne_n; assumption; fail "kp") | (apply Xk.ne_n'; assumption; fail "kp"))
local macro_rules | `(tactic| fail "ww1") => `(tactic| with_reducible first
  | refine Xk.c_chain ?_ | refine Xk.n_lst ?_ | refine Xk.n_tup ?_ | refine Xk.n_lrg ?_ | refine Xk.n_revL ?_)
local macro_rules | `(tactic| fail "ww2") => `(tactic| first
  | ((with_reducible refine' Xk.r_var ?hv ?_); (case hv => exact rfl))
  | ((with_reducible refine' Xk.r_aug ?hv ?_); (case hv => exact rfl))
  | ((with_reducible refine' Xk.r_ixL ?hv ?hw ?_); (case hv => fail "kp"); (case hw => fail "at"))
  | ((with_reducible refine' Xk.r_setL ?hv ?hw ?_); (case hv => fail "kp"); (case hw => fail "ix"))
  | ((with_reducible refine' Xk.r_gtup ?hv ?hw ?_); (case hv => exact Xk.sqT (by fail "kp")); (case hw => exact rfl))
  | ((with_reducible refine' ⟨Xk.ty_list (K := _) (xs := _) ?hv, ?_⟩); (case hv => fail "kp"))
  | ((with_reducible refine' Xk.r_append ?hv ?hw ?_); (case hv => fail "kp"); (case hw => fail "sd"))
  | ((with_reducible refine' Xk.r_I (C := fun _ j => 0 < j) ?hv ?_); (case hv => (first | omega | (show (0 : Int) < _; omega) | decide)))
  | ((with_reducible refine' Xk.r_len ?hv ?_); (case hv => fail "kp"))
  | ((with_reducible refine' Xk.n_listOf ?hv ?_); (case hv => fail "kp"))
  | ((with_reducible refine' Xk.r_I (C := Xk.CPowW) ?hv ?_); (case hv => exact ⟨by decide, by decide⟩))
  | (with_reducible refine ⟨Xk.szL (by with_unfolding_all rfl), ?_⟩)
  | ((with_reducible refine' ⟨_, _, rfl, ?hv, ?_⟩); (case hv => ((with_reducible show L2.SqL _ _ _ _); fail "kp")))
  | (with_reducible refine ⟨_, _, _, _, rfl, Xk.sq (by fail "kp"), Xk.sq (by fail "kp"), ?_⟩)
  | ((with_reducible refine' ⟨⟨_, ?hv⟩, ?_⟩); (case hv => ((with_reducible show L2.SqL _ _ _ _); fail "kp")))
  | (with_reducible refine Or.inl ⟨_, rfl, ?_⟩) | (with_reducible refine Or.inr ⟨_, rfl, ?_⟩)
  | (with_reducible refine ⟨_, _, rfl, rfl, ?_⟩) | (with_reducible refine ⟨_, rfl, ?_⟩) | (with_reducible refine ⟨_, _, rfl, ?_⟩))
local macro_rules | `(tactic| fail "ww") => `(tactic| repeat (first | fail "ww1" | fail "one" | fail "ww2"))

set_option Elab.async false
set_option linter.all false
set_option maxRecDepth 100000
namespace Xk
open PySem PySem.Spec PyProof.Rows L2 GenW
/-! ### enumerate(xs, start=c) -/
/-- the list at a, each item with its number from c on in a new pair -/
def Iteo (K : PySem.W.Frag) (a : Addr) (c : Int) : It where
  go i H := ∃ (xs : List V) (x : V), SqL K H a xs ∧ xs[i]? = some x
  yld i H v H' := ∃ T x, v = .ref T ∧ H T = none ∧ H' = upd H T (.tup [.int (c + (i : Nat)), x]) ∧ ∀ xs, SqL K H a xs → xs[i]? = some x
  stop i H := ∃ xs : List V, SqL K H a xs ∧ xs.length = i
theorem turn_enumS {P : Program} {w : World} {K : PySem.W.Frag} {elts : List Expr} {kk : Nat} {tpos : Pos} (a e it : Addr) (c : Int) :
    Turn P w K (.Tuple elts kk tpos) (Iteo K a c) [e, it] e (fun i h => (∃ was, IsEnum h e it (c + ((i : Nat) : Int)) was) ∧ h.IsListIter it a i ∧ e ≠ it) where
  mem := List.mem_cons_self
  obj := by
    rintro i h ⟨⟨was, he⟩, ⟨o, ho, _, hd⟩, _⟩ b hb
    rcases List.mem_cons.mp hb with z | z
    · subst z; exact ⟨_, he, fun v q => nomatch q⟩
    · rw [List.mem_singleton.mp z]; exact ⟨o, ho, fun v q => by rw [hd] at q; cases q⟩
  keep := by
    rintro i h h' ⟨⟨was, he⟩, hi, hne⟩ k
    exact ⟨⟨was, k e (by simp) _ he⟩, hi.at fun o q => k it (by simp) o q, hne⟩
  item := by
    intro X hP hw hK hc i pins s σ H E I hf st hg
    subst hP hw hK
    obtain ⟨⟨was, he⟩, hit, hne⟩ := st
    obtain ⟨xs, x, hq, hx⟩ := hg
    obtain ⟨its, rv, p, _⟩ := I.list hq
    obtain ⟨u, hu, ru⟩ := rv.get hx
    have pl := p.isList
    have hel : e < s.heap.objs.size := Heap.lt_size he
    have hil : it < s.heap.objs.size := by obtain ⟨_, q, _⟩ := hit; exact Heap.lt_size q
    have hai : a ≠ it := by
      intro z; subst z
      obtain ⟨o1, e1, c1, _⟩ := hit
      obtain ⟨o2, e2, c2, _⟩ := pl
      rw [e1] at e2; cases e2
      rw [c1] at c2
      exact absurd (Value.type.inj c2) (by decide)
    have hea : e ≠ a := by
      intro z; subst z
      obtain ⟨o2, e2, c2, _⟩ := pl
      rw [he] at e2; cases e2
      exact absurd (Value.type.inj c2) (by decide)
    have hul : its.toArray[i]? = some u := by simpa using hu
    have hsz : i < its.toArray.size := (Array.getElem?_eq_some_iff.mp hul).1
    refine wpAny_pyNext_enum_itemC (Draws.list (prog := X.prog) (w := X.w) (A := X.A.in1) (I.ok.hd hc) it a hai its.toArray) he ⟨hit, pl⟩ hsz hne (by simp [hne, hea]) fun y h' tk hy ho st' hT hz hk => ?_
    have ey : y = u := by
      have hy' : its.toArray[i]? = some y := hy
      rw [hul] at hy'; exact (Option.some.inj hy').symm
    subst ey
    refine ⟨_, rfl, wpAny_letOwnedTupleGo_enum (s := { s with heap := h', toks := tk + 1 }) ho fun h'' he' sb => ?_⟩
    have hT2 := (sb.2 _ (Nat.ne_of_gt hel)).trans hT
    have new : ObjOk X.prog X.w (upd H s.heap.objs.size (.tup [.int (c + (i : Nat)), x])) h'' s.heap.objs.size (.tup [.int (c + (i : Nat)), x]) :=
      ⟨szL rfl, [.int (c + (i : Nat)) tk, y], .cons ⟨_, rfl⟩ (.cons ru .nil), ⟨_, hT2, rfl, _, rfl⟩⟩
    have I1 : Inv X pins σ (upd H s.heap.objs.size (.tup [.int (c + (i : Nat)), x])) { s with heap := h'', toks := tk + 1 } := by
      refine I.turnedNew (ch := [e, it]) (fun b ob hb q => ?_) hf (Nat.le_refl _) new
      have b1 : b ≠ e := fun z => hb (by simp [z])
      have b2 : b ≠ it := fun z => hb (by simp [z])
      exact (sb.2 b b1).trans (hk b ob b1 b2 q)
    refine ⟨.ref s.heap.objs.size, _, I1, rfl, ⟨_, x, rfl, I.hok.fresh (Nat.le_refl _), rfl, fun ys hy => by rw [I.list_inj hy hq]; exact hx⟩, ⟨⟨y, ?_⟩, st'.1.at fun o q => (sb.2 it (Ne.symm hne)).trans q, hne⟩, fun b hb => ?_⟩
    · rw [show c + ((i + 1 : Nat) : Int) = c + (i : Int) + 1 by omega]; exact he'
    · have hb' : b < s.heap.objs.size := by
        rcases List.mem_cons.mp hb with z | z
        · rw [z]; exact hel
        · rw [List.mem_singleton.mp z]; exact hil
      rw [upd_ne (Nat.ne_of_lt hb')]
      exact (hf b hb).1
  done := by
    intro X hP hw hK hc i pins s σ H E I hf st hg
    subst hP hw hK
    obtain ⟨⟨was, he⟩, hit, hne⟩ := st
    obtain ⟨xs, hq, hx⟩ := hg
    obtain ⟨its, rv, p, _⟩ := I.list hq
    obtain ⟨f0, f1, f2, f3, f4, f5⟩ := hf it (by simp)
    have hl : its.toArray.size = i := by have := rv.length; simp; omega
    have pl := p.isList
    have hai : a ≠ it := by
      intro z; subst z
      obtain ⟨o1, e1, c1, _⟩ := hit
      obtain ⟨o2, e2, c2, _⟩ := pl
      rw [e1] at e2; cases e2
      rw [c1] at c2
      exact absurd (Value.type.inj c2) (by decide)
    refine wpAny_pyNext_enum_endD (Draws.list (prog := X.prog) (w := X.w) (A := X.A.in1) (I.ok.hd hc) it a hai its.toArray) he ⟨by rw [hl]; exact hit, pl⟩ fun h' eb => ⟨rfl, I.turned (t' := s.toks) (fun b o hb q => eb b o hb q) f0 f1 f3 f4 f5⟩
  self := fun A i s Q E st h => let ⟨⟨_, he⟩, _⟩ := st; wpAny_pyIter_enum he h
/-- what a walk over enumerate(xs, start=c) asks -/
def iEnumS (K : PySem.W.Frag) (ta tk : TA) : TI := fun σ H R => ta σ H fun vs H1 => tk σ H1 fun zs H2 => ∃ (a : Addr) (xs : List V) (c : Int), vs = [.ref a] ∧ zs = [.int c] ∧ SqL K H2 a xs ∧ -1000000 ≤ c ∧ c ≤ 1000000 ∧ R (Iteo K a c) H2
theorem pi_enumS {X : Cx} {e : Expr} {kws : List Keyword} {ta tk : TA} {p pos tpos : Pos} {elts : List Expr} {kk : Nat} (hg : Gl X "enumerate") (hm : X.mg "enumerate" = none) (ha : PA X [e] ta) (hk : PK X kws tk)
    (hall : (backToKw pos (keywordEach kws X.env)).all (·.1.isSome) = true := by rfl) (hks : (backToKw pos (keywordEach kws X.env)).filterMap (·.1) = [Str.ofString "start"] := by rfl)
    (hpl : ((backTo pos (starEach [e] X.env)).any (·.1) || (backToKw pos (keywordEach kws X.env)).any (·.1.isNone)) = false := by rfl) (hs : backTo pos (starEach [e] X.env) = [(false, eval e X.env)] := by rfl) :
    PI X (.Tuple elts kk tpos) (.Call (.Name "enumerate" p) [e] kws pos) (iEnumS X.K ta tk) := by
  refine ⟨fun pins s σ H R I h => ?_⟩
  refine wpAny_Call_Name_kw (ld_blt I hg hm boot_enumerate ?_)
  have ha' := fun Q hQ => ha.run pos pins s σ H Q I hQ
  rw [hs] at ha' hpl ⊢
  refine PySem.W.callWith_of (P := fun _ => True) hpl (fun h _ => ⟨.machine, .inr (.inl rfl), .of_pure rfl⟩) (evalArgs_kwB hall (thn (ha' _ h) fun us s1 ⟨vs, H1, I1, r1, q1⟩ => thn (hk.run pos pins s1 σ H1 _ I1 q1) fun ws s2 ⟨zs, H2, I2, r2, q2⟩ => ⟨trivial, ?_⟩))
  rw [hks]
  obtain ⟨a, xs, c, ex, ez, hq, c0, c1, q⟩ := q2
  subst ex ez
  cases r1 with
  | cons r rr =>
    cases rr
    cases r
    cases r2 with
    | cons r' rr' =>
      cases rr'
      obtain ⟨t, rfl⟩ := r'
      obtain ⟨its, rv, p', hz⟩ := I2.list hq
      refine enum_begins_start (begins_list a its.toArray) p'.isList (by omega) (by omega) fun h' he ho hsz hkp => wpAny_pyIter_enum he ?_
      have I3 : Inv X pins σ H2 { s2 with heap := h' } := I2.kept (t' := s2.toks) hkp
      refine ⟨s2.heap.objs.size + 1, [s2.heap.objs.size + 1, s2.heap.objs.size], _, _, H2, rfl, I3, turn_enumS a _ _ c, ⟨⟨.none, by simpa using he⟩, ⟨_, ho, rfl, rfl⟩, Nat.succ_ne_self _⟩, fun b hb => ?_, q⟩
      have hle : s2.heap.objs.size ≤ b := by
        rcases List.mem_cons.mp hb with z | z
        · rw [z]; exact Nat.le_add_right _ _
        · rw [List.mem_singleton.mp z]; exact Nat.le_refl _
      exact I2.fpOk hle (I2.hok.fresh hle)
theorem pi_enumSK {X : Cx} (K : PySem.W.Frag) {e : Expr} {kws : List Keyword} {ta tk : TA} {p pos tpos : Pos} {elts : List Expr} {kk : Nat} (hg : Gl X "enumerate") (hm : X.mg "enumerate" = none) (ha : PA X [e] ta) (hk : PK X kws tk) (hK : X.K = K := by rfl)
    (hall : (backToKw pos (keywordEach kws X.env)).all (·.1.isSome) = true := by rfl) (hks : (backToKw pos (keywordEach kws X.env)).filterMap (·.1) = [Str.ofString "start"] := by rfl)
    (hpl : ((backTo pos (starEach [e] X.env)).any (·.1) || (backToKw pos (keywordEach kws X.env)).any (·.1.isNone)) = false := by rfl) (hs : backTo pos (starEach [e] X.env) = [(false, eval e X.env)] := by rfl) :
    PI X (.Tuple elts kk tpos) (.Call (.Name "enumerate" p) [e] kws pos) (iEnumS K ta tk) := hK ▸ pi_enumS hg hm ha hk hall hks hpl hs
section
variable {K : PySem.W.Frag} {σ : L2.St} {H : Hp} {ta tk : TA} {R : L2.It → Hp → Prop} {a : Addr} {xs : List V} {c : Int}
theorem r_iEnumS (h : ta σ H fun vs H1 => tk σ H1 fun zs H2 => ∃ (a : Addr) (xs : List V) (c : Int), vs = [.ref a] ∧ zs = [.int c] ∧ SqL K H2 a xs ∧ -1000000 ≤ c ∧ c ≤ 1000000 ∧ R (Iteo K a c) H2) : iEnumS K ta tk σ H R := h
theorem walk_enumS : Walk (Iteo K a c) xs.length (fun H => SqL K H a xs) (YPair (fun i => some (.int (c + (i : Nat)))) (fun i => xs[i]?)) :=
  ⟨fun i _ hi q => ⟨xs, xs[i], q, by simp [hi]⟩, fun _ q => ⟨xs, q, rfl⟩, fun i H v H' _ q ⟨T, x, e1, e2, e3, e4⟩ => ⟨T, _, x, e1, e2, e3, rfl, e4 xs q⟩⟩
end
end Xk
local macro_rules | `(tactic| fail "ww1") => `(tactic| with_reducible refine Xk.r_iEnumS ?_)

set_option Elab.async false
set_option linter.all false
set_option maxRecDepth 100000
namespace Xk
open PySem PySem.Spec PyProof.Rows L2 GenW
/-! ### enumerate(zip(xs, ys), start=c), the pair unpacked within -/
section
variable {X : Cx} {A : Around} {e z TI TO i1 i2 l1 l2 : Addr} {xs ys : Array Value} {E : Value → Shared → Prop}
/-- the cells of a zip amid its turns; the pair that it gave out last may be alive or gone -/
def ZCell (z TI TO i1 i2 l1 l2 : Addr) (i : Nat) (h : Heap) : Prop :=
  IsPair h TI (.ref i1) (.ref i2) ∧ h.IsListIter i1 l1 i ∧ h.IsListIter i2 l2 i ∧ (∃ a b, IsPair h TO a b) ∧ (IsZip h z TI TO .none ∨ ∃ T f, IsZipHeld h z TI TO T f)
theorem alive_or {a : Addr} {s : Shared} {Q : Option Obj → Shared → Prop} (h : Q (s.heap.get? a) s) : wpAny (model X.prog X.w) A (loadIfAlive a) Q E s := fun _ _ _ => h
theorem free_dead {T : Addr} {f : Bool} {s : Shared} {Q : Bool → Shared → Prop} (hz : IsZipHeld s.heap z TI TO T f) (hT : s.heap.get? T = none) (h : Q true s) : wpAny (model X.prog X.w) A (Builtin.SmallTypes.ownedTupleIsFree (.ref z)) Q E s := by
  unfold Builtin.SmallTypes.ownedTupleIsFree
  apply wpAny_bind
  refine wpAny_field hz rfl (x := rawInt T) rfl ?_
  show wpAny _ A (loadIfAlive ((T : Int).toNat) >>= _) _ _ _
  rw [Int.toNat_natCast]
  apply wpAny_bind
  refine alive_or (X := X) ?_
  rw [hT]
  exact wpAny_pure h
theorem zip_next_dead {T : Addr} {f : Bool} {k1 k2 : Nat} {s : Shared} {x y a b : Value} {Q : Value → Shared → Prop} (D : ZipApart z TI TO i1 i2 l1 l2) (hz : IsZipHeld s.heap z TI TO T f) (hT : s.heap.get? T = none) (hTI : IsPair s.heap TI (.ref i1) (.ref i2)) (hTO : IsPair s.heap TO a b)
    (h1 : s.heap.IsListIter i1 l1 k1) (h2 : s.heap.IsListIter i2 l2 k2) (hl1 : s.heap.IsList l1 xs) (hl2 : s.heap.IsList l2 ys) (hx : xs[k1]? = some x) (hy : ys[k2]? = some y)
    (hQ : ∀ h', IsZip h' z TI TO (rawInt s.heap.objs.size) → IsPair h' TO x y → h'.IsListIter i1 l1 (k1 + 1) → h'.IsListIter i2 l2 (k2 + 1) → IsPair h' s.heap.objs.size x y → h'.objs.size = s.heap.objs.size + 1 → (∀ c o, c ≠ z → c ≠ TO → c ≠ i1 → c ≠ i2 → s.heap.get? c = some o → h'.get? c = some o) → Q (.ref s.heap.objs.size) { s with heap := h' }) :
    wpAny (model X.prog X.w) A (Builtin.«zip.__next__» ⟨[.ref z], []⟩) (fun fin s' => ∃ v, fin = .done (.ret v) ∧ Q v s') E s := by
  show wpAny _ A (field (.ref z) 2 >>= _) _ _ _
  apply wpAny_bind
  refine wpAny_field hz rfl (x := .bool false) rfl ?_
  show wpAny _ A (field (.ref z) 3 >>= _) _ _ _
  apply wpAny_bind
  refine wpAny_field hz rfl (x := .ref TI) rfl ?_
  apply wpAny_bind
  refine wpAny_seqItems hTI rfl ?_
  show wpAny _ A (Builtin.SmallTypes.ownedTupleIsFree (.ref z) >>= _) _ _ _
  apply wpAny_bind
  refine free_dead (X := X) hz hT ?_
  simp only [if_true]
  apply wpAny_bind
  apply wpAny_rule
  apply wpAny_bind
  refine wpAny_field hz rfl (x := .ref TO) rfl ?_
  apply wpAny_bind
  refine wpAny_setField_rec hz (by simp) fun g1 e1 b1 => ?_
  apply wpAny_bind
  simp only [List.zipIdx_cons, List.zipIdx_nil, List.forIn_cons, List.forIn_nil]
  apply wpAny_bind
  apply wpAny_bind
  apply wpAny_onRaise
  show wpAny _ A (Builtin.SmallTypes.nextOf (.ref i1) >>= _) _ _ _
  apply wpAny_bind
  refine wpAny_nextOf_list_item (h1.extBut b1.extBut D.i1z) (hl1.extBut b1.extBut D.l1z) hx fun g2 it2 b2 => wpAny_pure ?_
  have t2 : IsPair g2 TO a b := b2.extBut _ _ D.TOi1 (b1.extBut _ _ D.TOz hTO)
  apply wpAny_bind
  refine wpAny_seqItems t2 rfl ?_
  apply wpAny_bind
  refine wpAny_updateSeq_pair t2 fun g3 t3 b3 => ?_
  replace t3 : IsPair g3 TO x b := t3
  apply wpAny_bind
  apply wpAny_letGo
  apply wpAny_pure
  apply wpAny_bind
  apply wpAny_bind
  apply wpAny_onRaise
  show wpAny _ A (Builtin.SmallTypes.nextOf (.ref i2) >>= _) _ _ _
  apply wpAny_bind
  have j2 := ((h2.extBut b1.extBut D.i2z).extBut b2.extBut D.i12.symm).extBut b3.extBut D.TOi2.symm
  have m2 := ((hl2.extBut b1.extBut D.l2z).extBut b2.extBut D.l2i1).extBut b3.extBut D.l2TO
  refine wpAny_nextOf_list_item j2 m2 hy fun g4 it4 b4 => wpAny_pure ?_
  have t4 : IsPair g4 TO x b := b4.extBut _ _ D.TOi2 t3
  apply wpAny_bind
  refine wpAny_seqItems t4 rfl ?_
  apply wpAny_bind
  refine wpAny_updateSeq_pair t4 fun g5 t5 b5 => ?_
  replace t5 : IsPair g5 TO x y := t5
  apply wpAny_bind
  apply wpAny_letGo
  apply wpAny_pure
  apply wpAny_pure
  apply wpAny_bind
  refine wpAny_seqItems t5 rfl ?_
  apply wpAny_bind
  refine wpAny_newTuple ?_
  have sz : g5.objs.size = s.heap.objs.size := by rw [b5.1, b4.1, b3.1, b2.1, b1.1]
  have e5 := b5.extBut _ _ D.TOz.symm (b4.extBut _ _ D.i2z.symm (b3.extBut _ _ D.TOz.symm (b2.extBut _ _ D.i1z.symm e1)))
  have k5 : ∀ c o, c ≠ z → c ≠ TO → c ≠ i1 → c ≠ i2 → s.heap.get? c = some o → g5.get? c = some o := fun c o c1 c2 c3 c4 q =>
    b5.extBut _ _ c2 (b4.extBut _ _ c4 (b3.extBut _ _ c2 (b2.extBut _ _ c3 (b1.extBut _ _ c1 q))))
  have it5 : g5.IsListIter i1 l1 (k1 + 1) := ((it2.extBut b3.extBut D.TOi1.symm).extBut b4.extBut D.i12).extBut b5.extBut D.TOi1.symm
  have jt5 : g5.IsListIter i2 l2 (k2 + 1) := it4.extBut b5.extBut D.TOi2.symm
  have zl : z < g5.objs.size := Heap.lt_size e5
  show wpAny _ A (Builtin.SmallTypes.ownedTupleHandOut (.ref z) (.ref g5.objs.size) >>= _) _ _ _
  apply wpAny_bind
  unfold Builtin.SmallTypes.ownedTupleHandOut
  have e6 := Heap.get?_push_of_some { cls := .type "tuple", data := .seq #[x, y] } e5
  apply wpAny_bind
  refine wpAny_setField_rec e6 (by simp) fun g7 e7 b7 => ?_
  refine wpAny_setField_rec e7 (by simp) fun g8 e8 b8 => ?_
  have ez : IsZip g8 z TI TO (rawInt g5.objs.size) := e8
  have up : ∀ c o, c ≠ z → g5.get? c = some o → g8.get? c = some o := fun c o c1 q => b8.extBut _ _ c1 (b7.extBut _ _ c1 (Heap.get?_push_of_some _ q))
  have p8 : IsPair g8 g5.objs.size x y := b8.extBut _ _ (Nat.ne_of_gt zl) (b7.extBut _ _ (Nat.ne_of_gt zl) (Heap.get?_push_size _ rfl))
  have s8 : g8.objs.size = g5.objs.size + 1 := by rw [b8.1, b7.1, Heap.size_push]
  rw [sz] at ez p8 s8
  apply wpAny_pure
  refine ⟨_, rfl, ?_⟩
  show Q (.ref g5.objs.size) _
  rw [sz]
  exact hQ g8 ez (up _ _ D.TOz t5) (it5.at fun o q => up _ o D.i1z q) (jt5.at fun o q => up _ o D.i2z q) p8 s8 fun c o c1 c2 c3 c4 q => up c o c1 (k5 c o c1 c2 c3 c4 q)
theorem zip_end_dead {T : Addr} {f : Bool} {k1 k2 : Nat} {s : Shared} {a b : Value} {Q : PySem.Fin → Shared → Prop} (hh : A.handled = none) (D : ZipApart z TI TO i1 i2 l1 l2) (hz : IsZipHeld s.heap z TI TO T f) (hT : s.heap.get? T = none) (hTI : IsPair s.heap TI (.ref i1) (.ref i2)) (hTO : IsPair s.heap TO a b)
    (h1 : s.heap.IsListIter i1 l1 k1) (h2 : s.heap.IsListIter i2 l2 k2) (hl1 : s.heap.IsList l1 xs) (hl2 : s.heap.IsList l2 ys) (hend : xs[k1]? = none ∨ ys[k2]? = none)
    (hE : ∀ h' e, (∀ c o, c ≠ z → c ≠ TO → c ≠ i1 → c ≠ i2 → s.heap.get? c = some o → h'.get? c = some o) → (∃ o, h'.get? e = some o ∧ o.cls = .type "StopIteration") → E (.ref e) { s with heap := h' }) :
    wpAny (model X.prog X.w) A (Builtin.«zip.__next__» ⟨[.ref z], []⟩) Q E s := by
  show wpAny _ A (field (.ref z) 2 >>= _) _ _ _
  apply wpAny_bind
  refine wpAny_field hz rfl (x := .bool false) rfl ?_
  show wpAny _ A (field (.ref z) 3 >>= _) _ _ _
  apply wpAny_bind
  refine wpAny_field hz rfl (x := .ref TI) rfl ?_
  apply wpAny_bind
  refine wpAny_seqItems hTI rfl ?_
  show wpAny _ A (Builtin.SmallTypes.ownedTupleIsFree (.ref z) >>= _) _ _ _
  apply wpAny_bind
  refine free_dead (X := X) hz hT ?_
  simp only [if_true]
  apply wpAny_bind
  apply wpAny_rule
  apply wpAny_bind
  refine wpAny_field hz rfl (x := .ref TO) rfl ?_
  apply wpAny_bind
  refine wpAny_setField_rec hz (by simp) fun g1 e1 b1 => ?_
  apply wpAny_bind
  simp only [List.zipIdx_cons, List.zipIdx_nil, List.forIn_cons, List.forIn_nil]
  apply wpAny_bind
  apply wpAny_bind
  apply wpAny_onRaise
  show wpAny _ A (Builtin.SmallTypes.nextOf (.ref i1) >>= _) _ _ _
  apply wpAny_bind
  cases hx : xs[k1]? with
  | none =>
    refine wpAny_nextOf_list_end hh (h1.extBut b1.extBut D.i1z) (hl1.extBut b1.extBut D.l1z) hx fun g2 ex b2 ⟨ox, ho, hc⟩ => ?_
    have e2 := b2 _ _ D.i1z.symm e1
    have ne : ex ≠ z := fun q => by subst q; rw [e2] at ho; cases ho; simp at hc
    exact wpAny_setField_rec e2 (by simp) fun g3 _ b3 => hE g3 ex (fun c o c1 _ c3 _ q => b3.extBut _ _ c1 (b2 _ _ c3 (b1.extBut _ _ c1 q))) ⟨ox, b3.extBut _ _ ne ho, hc⟩
  | some x =>
    have hy : ys[k2]? = none := hend.resolve_left (by rw [hx]; exact fun q => nomatch q)
    refine wpAny_nextOf_list_item (h1.extBut b1.extBut D.i1z) (hl1.extBut b1.extBut D.l1z) hx fun g2 it2 b2 => wpAny_pure ?_
    have t2 : IsPair g2 TO a b := b2.extBut _ _ D.TOi1 (b1.extBut _ _ D.TOz hTO)
    apply wpAny_bind
    refine wpAny_seqItems t2 rfl ?_
    apply wpAny_bind
    refine wpAny_updateSeq_pair t2 fun g3 t3 b3 => ?_
    apply wpAny_bind
    apply wpAny_letGo
    apply wpAny_pure
    apply wpAny_bind
    apply wpAny_bind
    apply wpAny_onRaise
    show wpAny _ A (Builtin.SmallTypes.nextOf (.ref i2) >>= _) _ _ _
    apply wpAny_bind
    have j2 := ((h2.extBut b1.extBut D.i2z).extBut b2.extBut D.i12.symm).extBut b3.extBut D.TOi2.symm
    have m2 := ((hl2.extBut b1.extBut D.l2z).extBut b2.extBut D.l2i1).extBut b3.extBut D.l2TO
    refine wpAny_nextOf_list_end hh j2 m2 hy fun g4 ex b4 ⟨ox, ho, hc⟩ => ?_
    have e4 := b4 _ _ D.i2z.symm (b3.extBut _ _ D.TOz.symm (b2.extBut _ _ D.i1z.symm e1))
    have ne : ex ≠ z := fun q => by subst q; rw [e4] at ho; cases ho; simp at hc
    exact wpAny_setField_rec e4 (by simp) fun g5 _ b5 => hE g5 ex (fun c o c1 c2 c3 c4 q => b5.extBut _ _ c1 (b4 _ _ c4 (b3.extBut _ _ c2 (b2.extBut _ _ c3 (b1.extBut _ _ c1 q))))) ⟨ox, b5.extBut _ _ ne ho, hc⟩
theorem zip_nextOf {i : Nat} {s : Shared} {x y : Value} {Q : Value → Shared → Prop} (D : ZipApart z TI TO i1 i2 l1 l2) (st : ZCell z TI TO i1 i2 l1 l2 i s.heap) (hl1 : s.heap.IsList l1 xs) (hl2 : s.heap.IsList l2 ys) (hx : xs[i]? = some x) (hy : ys[i]? = some y)
    (hQ : ∀ h', (∀ b o, b ∉ [z, TO, i1, i2] → s.heap.get? b = some o → h'.get? b = some o) → IsPair h' s.heap.objs.size x y → h'.objs.size = s.heap.objs.size + 1 → ZCell z TI TO i1 i2 l1 l2 (i + 1) h' → Q (.ref s.heap.objs.size) { s with heap := h' }) :
    wpAny (model X.prog X.w) A (Builtin.SmallTypes.nextOf (.ref z)) Q E s := by
  obtain ⟨hTI, h1, h2, ⟨a, b, hTO⟩, hz⟩ := st
  unfold Builtin.SmallTypes.nextOf
  apply wpAny_bind
  rcases hz with hz | ⟨T, f, hz⟩
  · have ty : s.TypeIs (.ref z) "zip" := ⟨_, hz, rfl⟩
    refine wpAny_callSpecial?_slot (name := Str.ofString "__next__") ty F.slot_zip_next (wpAny_call_entry F.slot_zip_next ty F.entry_zip_next (zip_next_item D hz hTI hTO h1 h2 hl1 hl2 hx hy fun h' a1 a2 a3 a4 a5 a6 hk => wpAny_pure ?_) (F.args_zip_next_1 _))
    exact hQ h' (fun c o hc q => hk c o (fun w => hc (by simp [w])) (fun w => hc (by simp [w])) (fun w => hc (by simp [w])) (fun w => hc (by simp [w])) q) a5 a6 ⟨hk _ _ D.TIz D.TITO D.TIi1 D.TIi2 hTI, a3, a4, ⟨x, y, a2⟩, .inr ⟨s.heap.objs.size, false, a1⟩⟩
  · have ty : s.TypeIs (.ref z) "zip" := ⟨_, hz, rfl⟩
    cases hT : s.heap.get? T with
    | some oT =>
      refine wpAny_callSpecial?_slot (name := Str.ofString "__next__") ty F.slot_zip_next (wpAny_call_entry F.slot_zip_next ty F.entry_zip_next (zip_next_item_held D hz hT hTI h1 h2 hl1 hl2 hx hy fun h' a1 a3 a4 a5 a6 hk => wpAny_pure ?_) (F.args_zip_next_1 _))
      exact hQ h' (fun c o hc q => hk c o (fun w => hc (by simp [w])) (fun w => hc (by simp [w])) (fun w => hc (by simp [w])) q) a5 a6 ⟨hk _ _ D.TIz D.TIi1 D.TIi2 hTI, a3, a4, ⟨a, b, hk _ _ D.TOz D.TOi1 D.TOi2 hTO⟩, .inr ⟨T, true, a1⟩⟩
    | none =>
      refine wpAny_callSpecial?_slot (name := Str.ofString "__next__") ty F.slot_zip_next (wpAny_call_entry F.slot_zip_next ty F.entry_zip_next (zip_next_dead (X := X) D hz hT hTI hTO h1 h2 hl1 hl2 hx hy fun h' a1 a2 a3 a4 a5 a6 hk => wpAny_pure ?_) (F.args_zip_next_1 _))
      exact hQ h' (fun c o hc q => hk c o (fun w => hc (by simp [w])) (fun w => hc (by simp [w])) (fun w => hc (by simp [w])) (fun w => hc (by simp [w])) q) a5 a6 ⟨hk _ _ D.TIz D.TITO D.TIi1 D.TIi2 hTI, a3, a4, ⟨x, y, a2⟩, .inr ⟨s.heap.objs.size, false, a1⟩⟩
theorem ZCell.keep {i : Nat} {h h' : Heap} (st : ZCell z TI TO i1 i2 l1 l2 i h) (k : ∀ b ∈ [z, TI, TO, i1, i2], ∀ o, h.get? b = some o → h'.get? b = some o) : ZCell z TI TO i1 i2 l1 l2 i h' := by
  obtain ⟨hTI, h1, h2, ⟨a, b, hTO⟩, hz⟩ := st
  refine ⟨k TI (by simp) _ hTI, h1.at fun o q => k i1 (by simp) o q, h2.at fun o q => k i2 (by simp) o q, ⟨a, b, k TO (by simp) _ hTO⟩, ?_⟩
  rcases hz with hz | ⟨T, f, hz⟩
  · exact .inl (k z (by simp) _ hz)
  · exact .inr ⟨T, f, k z (by simp) _ hz⟩
/-- one step of the enumerate over a zip: its pair at the new address, the zip's pair just ahead of it -/
theorem enumZ_next {i : Nat} {s : Shared} {x y was : Value} {cnt : Int} {Q : Value → Shared → Prop} (D : ZipApart z TI TO i1 i2 l1 l2) (off : e ∉ [z, TI, TO, i1, i2]) (he : IsEnum s.heap e z cnt was) (st : ZCell z TI TO i1 i2 l1 l2 i s.heap) (hl1 : s.heap.IsList l1 xs) (hl2 : s.heap.IsList l2 ys) (hx : xs[i]? = some x) (hy : ys[i]? = some y)
    (hQ : ∀ h' tk, (∀ b o, b ∉ [e, z, TO, i1, i2] → s.heap.get? b = some o → h'.get? b = some o) → IsPair h' s.heap.objs.size x y →
      h'.get? (s.heap.objs.size + 1) = some { cls := .type "tuple", data := .seq #[.int cnt tk, .ref s.heap.objs.size] } → h'.objs.size = s.heap.objs.size + 2 → IsEnumOut h' e z (cnt + 1) (.ref s.heap.objs.size) (s.heap.objs.size + 1) →
      ZCell z TI TO i1 i2 l1 l2 (i + 1) h' → Q (.ref (s.heap.objs.size + 1)) { s with heap := h', toks := tk + 1 }) :
    wpAny (model X.prog X.w) A (Builtin.«enumerate.__next__» ⟨[.ref e], []⟩) (fun fin s' => ∃ v, fin = .done (.ret v) ∧ Q v s') E s := by
  obtain ⟨g0, gg, gd, gt, go⟩ := s
  have hS : e < g0.objs.size := Heap.lt_size he
  show wpAny _ A (field (.ref e) 2 >>= _) _ _ _
  apply wpAny_bind
  refine wpAny_field he rfl (x := .ref z) rfl ?_
  apply wpAny_bind
  refine zip_nextOf (X := X) (s := ⟨g0, gg, gd, gt, go⟩) D st hl1 hl2 hx hy fun g1 kp1 pr1 sz1 st1 => ?_
  replace kp1 : ∀ b o, b ∉ [z, TO, i1, i2] → g0.get? b = some o → g1.get? b = some o := kp1
  replace pr1 : IsPair g1 g0.objs.size x y := pr1
  replace sz1 : g1.objs.size = g0.objs.size + 1 := sz1
  have n1 : e ∉ [z, TO, i1, i2] := fun w => by
    have w' : e = z ∨ e = TO ∨ e = i1 ∨ e = i2 := by simpa using w
    rcases w' with w | w | w | w <;> exact off (by simp [w])
  replace st1 : ZCell z TI TO i1 i2 l1 l2 (i + 1) g1 := st1
  have he1 : IsEnum g1 e z cnt was := kp1 e _ n1 he
  show wpAny _ A (field (.ref e) 3 >>= _) _ _ _
  apply wpAny_bind
  refine wpAny_field he1 rfl (x := rawInt cnt) rfl ?_
  show wpAny _ A (field (.ref e) 4 >>= _) _ _ _
  apply wpAny_bind
  refine wpAny_field he1 rfl (x := .none) rfl ?_
  show wpAny _ A (mkInt cnt >>= _) _ _ _
  apply wpAny_bind
  refine wpAny_mkInt ?_
  show wpAny _ A (setField (.ref e) 3 (rawInt (cnt + 1)) >>= _) _ _ _
  apply wpAny_bind
  refine wpAny_setField_rec he1 (by simp) fun g2 he2 sb2 => ?_
  replace sb2 : Heap.SameBut e g1 g2 := sb2
  replace he2 : IsEnum g2 e z (cnt + 1) was := he2
  show wpAny _ A (setField (.ref e) 4 .none >>= _) _ _ _
  apply wpAny_bind
  refine wpAny_setField_rec he2 (by simp) fun g3 he3 sb3 => ?_
  replace sb3 : Heap.SameBut e g2 g3 := sb3
  replace he3 : IsEnum g3 e z (cnt + 1) was := he3
  show wpAny _ A (newTuple [.int cnt gt, .ref g0.objs.size] >>= _) _ _ _
  apply wpAny_bind
  refine wpAny_newTuple ?_
  have sz3 : g3.objs.size = g0.objs.size + 1 := by rw [sb3.1, sb2.1, sz1]
  have he4 : IsEnum (g3.push { cls := .type "tuple", data := .seq #[.int cnt gt, .ref g0.objs.size] }) e z (cnt + 1) was := Heap.get?_push_of_some _ he3
  have kp4 : ∀ b o, b ≠ e → g1.get? b = some o → (g3.push { cls := .type "tuple", data := .seq #[.int cnt gt, .ref g0.objs.size] }).get? b = some o := fun b o hb q =>
    Heap.get?_push_of_some _ (sb3.extBut b o hb (sb2.extBut b o hb q))
  have tp4 : (g3.push { cls := .type "tuple", data := .seq #[.int cnt gt, .ref g0.objs.size] }).get? (g0.objs.size + 1) = some { cls := .type "tuple", data := .seq #[.int cnt gt, .ref g0.objs.size] } := by
    rw [← sz3]; exact Heap.get?_push_size _ rfl
  have sz4 : (g3.push { cls := .type "tuple", data := .seq #[.int cnt gt, .ref g0.objs.size] }).objs.size = g0.objs.size + 2 := by rw [Heap.size_push, sz3]
  rw [sz3]
  generalize g3.push { cls := .type "tuple", data := .seq #[.int cnt gt, .ref g0.objs.size] } = g4 at he4 kp4 tp4 sz4 ⊢
  show wpAny _ A (Builtin.SmallTypes.ownedTupleIsFree (.ref e) >>= _) _ _ _
  apply wpAny_bind
  unfold Builtin.SmallTypes.ownedTupleIsFree
  apply wpAny_bind
  refine wpAny_field he4 rfl (x := .none) rfl ?_
  apply wpAny_pure
  simp only [if_true]
  apply wpAny_bind
  apply wpAny_rule
  apply wpAny_bind
  refine wpAny_field he4 rfl (x := was) rfl ?_
  apply wpAny_bind
  refine wpAny_setField_rec he4 (by simp) fun g5 he5 sb5 => ?_
  replace sb5 : Heap.SameBut e g4 g5 := sb5
  replace he5 : IsEnum g5 e z (cnt + 1) (.ref g0.objs.size) := he5
  show wpAny _ A (Builtin.SmallTypes.ownedTupleHandOut (.ref e) (.ref (g0.objs.size + 1)) >>= _) _ _ _
  apply wpAny_bind
  unfold Builtin.SmallTypes.ownedTupleHandOut
  apply wpAny_bind
  refine wpAny_setField_rec he5 (by simp) fun g6 he6 sb6 => ?_
  replace sb6 : Heap.SameBut e g5 g6 := sb6
  replace he6 : IsEnumOut g6 e z (cnt + 1) (.ref g0.objs.size) (g0.objs.size + 1) := he6
  refine wpAny_setField_rec he6 (by simp) fun g7 he7 sb7 => ?_
  replace sb7 : Heap.SameBut e g6 g7 := sb7
  replace he7 : IsEnumOut g7 e z (cnt + 1) (.ref g0.objs.size) (g0.objs.size + 1) := he7
  have kp7 : ∀ b o, b ≠ e → g4.get? b = some o → g7.get? b = some o := fun b o hb q => sb7.extBut b o hb (sb6.extBut b o hb (sb5.extBut b o hb q))
  apply wpAny_bind
  apply wpAny_letGo
  apply wpAny_pure
  refine ⟨_, rfl, hQ g7 gt (fun b o hb q => ?_) ?_ ?_ ?_ he7 (st1.keep fun b hb o q => kp7 b o (fun w => off (w ▸ hb)) (kp4 b o (fun w => off (w ▸ hb)) q))⟩
  · have hbe : b ≠ e := fun w => hb (by simp [w])
    exact kp7 b o hbe (kp4 b o hbe (kp1 b o (fun w => hb (List.mem_cons_of_mem _ w)) q))
  · exact kp7 _ _ (Nat.ne_of_gt hS) (kp4 _ _ (Nat.ne_of_gt hS) pr1)
  · exact kp7 _ _ (Nat.ne_of_gt (Nat.lt_succ_of_lt hS)) tp4
  · rw [sb7.1, sb6.1, sb5.1, sz4]
theorem enumZ_item {i : Nat} {s : Shared} {x y was : Value} {cnt : Int} {Q : Option Value → Shared → Prop} (D : ZipApart z TI TO i1 i2 l1 l2) (off : e ∉ [z, TI, TO, i1, i2]) (he : IsEnum s.heap e z cnt was) (st : ZCell z TI TO i1 i2 l1 l2 i s.heap) (hl1 : s.heap.IsList l1 xs) (hl2 : s.heap.IsList l2 ys) (hx : xs[i]? = some x) (hy : ys[i]? = some y)
    (hQ : ∀ h' tk, (∀ b o, b ∉ [e, z, TO, i1, i2] → s.heap.get? b = some o → h'.get? b = some o) → IsPair h' s.heap.objs.size x y →
      h'.get? (s.heap.objs.size + 1) = some { cls := .type "tuple", data := .seq #[.int cnt tk, .ref s.heap.objs.size] } → h'.objs.size = s.heap.objs.size + 2 → IsEnumOut h' e z (cnt + 1) (.ref s.heap.objs.size) (s.heap.objs.size + 1) →
      ZCell z TI TO i1 i2 l1 l2 (i + 1) h' → Q (some (.ref (s.heap.objs.size + 1))) { s with heap := h', toks := tk + 1 }) :
    wpAny (model X.prog X.w) A (pyNext (.ref e)) Q E s := by
  have ty : s.TypeIs (.ref e) "enumerate" := ⟨_, he, rfl⟩
  unfold pyNext
  refine wpAny_bind (wpAny_attempt (wpAny_callSpecial?_slot (name := Str.ofString "__next__") ty F.slot_enumerate_next (wpAny_call_entry F.slot_enumerate_next ty F.entry_enumerate_next ?_ (F.args_enumerate_next_1 _))))
  exact enumZ_next (X := X) D off he st hl1 hl2 hx hy fun h' tk a b c d f g => wpAny_pure (hQ h' tk a b c d f g)
theorem enumZ_end {i : Nat} {s : Shared} {was : Value} {cnt : Int} {Q : Option Value → Shared → Prop} (hh : A.handled = none) (D : ZipApart z TI TO i1 i2 l1 l2) (he : IsEnum s.heap e z cnt was) (st : ZCell z TI TO i1 i2 l1 l2 i s.heap) (hl1 : s.heap.IsList l1 xs) (hl2 : s.heap.IsList l2 ys) (hend : xs[i]? = none ∨ ys[i]? = none)
    (hQ : ∀ h', (∀ b o, b ∉ [z, TO, i1, i2] → s.heap.get? b = some o → h'.get? b = some o) → Q none { s with heap := h' }) : wpAny (model X.prog X.w) A (pyNext (.ref e)) Q E s := by
  have ty : s.TypeIs (.ref e) "enumerate" := ⟨_, he, rfl⟩
  obtain ⟨hTI, h1, h2, ⟨a, b, hTO⟩, hz⟩ := st
  unfold pyNext
  refine wpAny_bind (wpAny_attempt (wpAny_callSpecial?_slot (name := Str.ofString "__next__") ty F.slot_enumerate_next (wpAny_call_entry F.slot_enumerate_next ty F.entry_enumerate_next ?_ (F.args_enumerate_next_1 _))))
  show wpAny _ A.in1 (field (.ref e) 2 >>= _) _ _ _
  apply wpAny_bind
  refine wpAny_field he rfl (x := .ref z) rfl ?_
  apply wpAny_bind
  unfold Builtin.SmallTypes.nextOf
  apply wpAny_bind
  rcases hz with hz | ⟨T, f, hz⟩
  · have tz : s.TypeIs (.ref z) "zip" := ⟨_, hz, rfl⟩
    refine wpAny_callSpecial?_slot (name := Str.ofString "__next__") tz F.slot_zip_next (wpAny_call_entry F.slot_zip_next tz F.entry_zip_next (zip_next_end hh D hz hTI hTO h1 h2 hl1 hl2 hend fun h' ex hk ⟨o, ho, hc⟩ => ?_) (F.args_zip_next_1 _))
    apply wpAny_bind
    refine wpAny_isInstance (T := "StopIteration") (b := true) ⟨o, ho, hc⟩ isSubtype_stop ?_
    apply wpAny_pure
    exact hQ h' fun c o hc e => hk c o (fun q => hc (by simp [q])) (fun q => hc (by simp [q])) (fun q => hc (by simp [q])) (fun q => hc (by simp [q])) e
  · have tz : s.TypeIs (.ref z) "zip" := ⟨_, hz, rfl⟩
    cases hT : s.heap.get? T with
    | some oT =>
      refine wpAny_callSpecial?_slot (name := Str.ofString "__next__") tz F.slot_zip_next (wpAny_call_entry F.slot_zip_next tz F.entry_zip_next (zip_next_end_held hh D hz hT hTI h1 h2 hl1 hl2 hend fun h' ex hk ⟨o, ho, hc⟩ => ?_) (F.args_zip_next_1 _))
      apply wpAny_bind
      refine wpAny_isInstance (T := "StopIteration") (b := true) ⟨o, ho, hc⟩ isSubtype_stop ?_
      apply wpAny_pure
      exact hQ h' fun c o hc e => hk c o (fun q => hc (by simp [q])) (fun q => hc (by simp [q])) (fun q => hc (by simp [q])) e
    | none =>
      refine wpAny_callSpecial?_slot (name := Str.ofString "__next__") tz F.slot_zip_next (wpAny_call_entry F.slot_zip_next tz F.entry_zip_next (zip_end_dead (X := X) hh D hz hT hTI hTO h1 h2 hl1 hl2 hend fun h' ex hk ⟨o, ho, hc⟩ => ?_) (F.args_zip_next_1 _))
      apply wpAny_bind
      refine wpAny_isInstance (T := "StopIteration") (b := true) ⟨o, ho, hc⟩ isSubtype_stop ?_
      apply wpAny_pure
      exact hQ h' fun c o hc e => hk c o (fun q => hc (by simp [q])) (fun q => hc (by simp [q])) (fun q => hc (by simp [q])) (fun q => hc (by simp [q])) e
end
/-- the lists at a and b, a new pair of their items in a new pair with its number from c on -/
def Iez (K : PySem.W.Frag) (a b : Addr) (c : Int) : It where
  go i H := ∃ (xs ys : List V) (x y : V), SqL K H a xs ∧ SqL K H b ys ∧ xs[i]? = some x ∧ ys[i]? = some y
  yld i H v H' := ∃ T T2 x y, v = .ref T2 ∧ H T = none ∧ H T2 = none ∧ T ≠ T2 ∧ H' = upd (upd H T (.tup [x, y])) T2 (.tup [.int (c + (i : Nat)), .ref T]) ∧ (∀ xs, SqL K H a xs → xs[i]? = some x) ∧ ∀ ys, SqL K H b ys → ys[i]? = some y
  stop i H := ∃ xs ys : List V, SqL K H a xs ∧ SqL K H b ys ∧ (xs.length ≤ i ∨ ys.length ≤ i)
theorem turn_enumZ {P : Program} {w : World} {K : PySem.W.Frag} {elts : List Expr} {kk : Nat} {tpos : Pos} {a b e z TI TO i1 i2 : Addr} (c : Int) (D : ZipApart z TI TO i1 i2 a b) (off : e ∉ [z, TI, TO, i1, i2]) :
    Turn P w K (.Tuple elts kk tpos) (Iez K a b c) [e, z, TI, TO, i1, i2] e (fun i h => (∃ was, IsEnum h e z (c + ((i : Nat) : Int)) was) ∧ ZCell z TI TO i1 i2 a b i h) where
  mem := List.mem_cons_self
  obj := by
    rintro i h ⟨⟨was, he⟩, hTI, ⟨o1, e1, _, d1⟩, ⟨o2, e2, _, d2⟩, ⟨x, y, hTO⟩, hz⟩ q hq
    have hq' : q = e ∨ q = z ∨ q = TI ∨ q = TO ∨ q = i1 ∨ q = i2 := by simpa using hq
    rcases hq' with r | r | r | r | r | r <;> subst r
    · exact ⟨_, he, fun v w => nomatch w⟩
    · rcases hz with hz | ⟨T, f, hz⟩
      · exact ⟨_, hz, fun v w => nomatch w⟩
      · exact ⟨_, hz, fun v w => nomatch w⟩
    · exact ⟨_, hTI, fun v w => nomatch w⟩
    · exact ⟨_, hTO, fun v w => nomatch w⟩
    · exact ⟨o1, e1, fun v w => by rw [d1] at w; cases w⟩
    · exact ⟨o2, e2, fun v w => by rw [d2] at w; cases w⟩
  keep := by
    rintro i h h' ⟨⟨was, he⟩, st⟩ k
    exact ⟨⟨was, k e List.mem_cons_self _ he⟩, st.keep fun q hq o r => k q (List.mem_cons_of_mem _ hq) o r⟩
  item := by
    intro X hP hw hK hc i pins s σ H E I hf st hg
    subst hP hw hK
    obtain ⟨⟨was, he⟩, zc⟩ := st
    obtain ⟨xs, ys, x, y, hqx, hqy, hx, hy⟩ := hg
    obtain ⟨its, rv, p, _⟩ := I.list hqx
    obtain ⟨its2, rv2, p2, _⟩ := I.list hqy
    obtain ⟨u, hu, ru⟩ := rv.get hx
    obtain ⟨u2, hu2, ru2⟩ := rv2.get hy
    have hel : e < s.heap.objs.size := Heap.lt_size he
    have old : ∀ q ∈ [e, z, TI, TO, i1, i2], q < s.heap.objs.size := fun q hq => by
      obtain ⟨hTI, ⟨o1, e1, _⟩, ⟨o2, e2, _⟩, ⟨_, _, hTO⟩, hz⟩ := zc
      have hq' : q = e ∨ q = z ∨ q = TI ∨ q = TO ∨ q = i1 ∨ q = i2 := by simpa using hq
      rcases hq' with r | r | r | r | r | r <;> rw [r]
      · exact hel
      · rcases hz with hz | ⟨_, _, hz⟩ <;> exact Heap.lt_size hz
      · exact Heap.lt_size hTI
      · exact Heap.lt_size hTO
      · exact Heap.lt_size e1
      · exact Heap.lt_size e2
    refine enumZ_item (X := X) D off he zc p.isList p2.isList (x := u) (y := u2) (by simpa using hu) (by simpa using hu2) fun h' tk kp pr tp sz ho zc' => ?_
    refine ⟨_, rfl, wpAny_letOwnedTupleGo_enum (s := { s with heap := h', toks := tk + 1 }) ho fun h'' he' sb => ?_⟩
    have up : ∀ q o, q ≠ e → h'.get? q = some o → h''.get? q = some o := fun q o hq r => (sb.2 q hq).trans r
    have nT : H s.heap.objs.size = none := I.hok.fresh (Nat.le_refl _)
    have nT2 : H (s.heap.objs.size + 1) = none := I.hok.fresh (Nat.le_succ _)
    have pr2 := up _ _ (Nat.ne_of_gt hel) pr
    have tp2 := up _ _ (Nat.ne_of_gt (Nat.lt_succ_of_lt hel)) tp
    obtain ⟨G, gk, gn⟩ := restrict h'' fun q => decide (q ≠ s.heap.objs.size + 1)
    have gk' : ∀ q, q ≠ s.heap.objs.size + 1 → G.get? q = h''.get? q := fun q hq => gk q (decide_eq_true hq)
    have gn' : G.get? (s.heap.objs.size + 1) = none := gn _ (by simp)
    have new1 : ObjOk X.prog X.w (upd H s.heap.objs.size (.tup [x, y])) G s.heap.objs.size (.tup [x, y]) :=
      ⟨szL rfl, [u, u2], .cons ru (.cons ru2 .nil), ⟨_, (gk' _ (Nat.ne_of_lt (Nat.lt_succ_self _))).trans pr2, rfl, _, rfl⟩⟩
    have I1 : Inv X pins σ (upd H s.heap.objs.size (.tup [x, y])) { s with heap := G, toks := tk + 1 } := by
      refine I.turnedNew (ch := [e, z, TI, TO, i1, i2]) (fun q o hq r => ?_) hf (Nat.le_refl _) new1
      have hlt := Heap.lt_size r
      rw [gk' q (Nat.ne_of_lt (Nat.lt_succ_of_lt hlt))]
      exact up q o (fun w => hq (by simp [w])) (kp q o (fun w => hq (by
        have w' : q = e ∨ q = z ∨ q = TO ∨ q = i1 ∨ q = i2 := by simpa using w
        rcases w' with w | w | w | w | w <;> simp [w])) r)
    have nn2 : upd H s.heap.objs.size (.tup [x, y]) (s.heap.objs.size + 1) = none := by rw [upd_ne (Nat.ne_of_gt (Nat.lt_succ_self _))]; exact nT2
    have new2 : ObjOk X.prog X.w (upd (upd H s.heap.objs.size (.tup [x, y])) (s.heap.objs.size + 1) (.tup [.int (c + (i : Nat)), .ref s.heap.objs.size])) h'' (s.heap.objs.size + 1) (.tup [.int (c + (i : Nat)), .ref s.heap.objs.size]) :=
      ⟨szL rfl, [.int (c + (i : Nat)) tk, .ref s.heap.objs.size], .cons ⟨_, rfl⟩ (.cons rfl .nil), ⟨_, tp2, rfl, _, rfl⟩⟩
    have I2 := I1.laidN (t' := tk + 1) (h' := h'') (fun q o r => by
      have hq : q ≠ s.heap.objs.size + 1 := fun w => by
        have r' : G.get? q = some o := r
        rw [w, gn'] at r'; cases r'
      have r' : G.get? q = some o := r
      rw [gk' q hq] at r'; exact r') gn' nn2 new2
    refine ⟨.ref (s.heap.objs.size + 1), _, I2, rfl, ⟨_, _, x, y, rfl, nT, nT2, Nat.ne_of_lt (Nat.lt_succ_self _), rfl, fun l hl => by rw [I.list_inj hl hqx]; exact hx, fun l hl => by rw [I.list_inj hl hqy]; exact hy⟩, ⟨⟨.ref s.heap.objs.size, ?_⟩, zc'.keep fun q hq o r => up q o (fun w => off (w ▸ hq)) r⟩, fun q hq => ?_⟩
    · rw [show c + ((i + 1 : Nat) : Int) = c + (i : Int) + 1 by omega]; exact he'
    · have := old q hq
      rw [upd_ne (Nat.ne_of_lt (Nat.lt_succ_of_lt this)), upd_ne (Nat.ne_of_lt this)]
      exact (hf q hq).1
  done := by
    intro X hP hw hK hc i pins s σ H E I hf st hg
    subst hP hw hK
    obtain ⟨⟨was, he⟩, zc⟩ := st
    obtain ⟨xs, ys, hqx, hqy, hend⟩ := hg
    obtain ⟨its, rv, p, _⟩ := I.list hqx
    obtain ⟨its2, rv2, p2, _⟩ := I.list hqy
    have l1 := rv.length
    have l2 := rv2.length
    have hend' : its.toArray[i]? = none ∨ its2.toArray[i]? = none := by
      rcases hend with q | q
      · exact .inl (by simp; omega)
      · exact .inr (by simp; omega)
    refine enumZ_end (X := X) (I.ok.hd hc) D he zc p.isList p2.isList hend' fun h' kp => ⟨rfl, I.turnedL (t' := s.toks) (ch := [e, z, TI, TO, i1, i2]) (fun q o hq r => kp q o (fun w => hq ?_) r) hf⟩
    have w' : q = z ∨ q = TO ∨ q = i1 ∨ q = i2 := by simpa using w
    rcases w' with w | w | w | w <;> simp [w]
  self := fun A i s Q E st h => let ⟨⟨_, he⟩, _⟩ := st; wpAny_pyIter_enum he h
/-- an enumerate object over a zip, made with start= -/
def ezObj (z : Addr) (k : Int) : Obj := { cls := .type "enumerate", data := .fields #[.none, .bool false, .ref z, rawInt k, .none, .none] }
set_option maxHeartbeats 1000000 in
theorem meets_ez {z TI TO : Addr} {f0 : Value} (k : Int) (t : Tok) (hfit : Builtin.SmallTypes.fitsIndex k = true) :
    Meets (Builtin.«enumerate.__new__» ⟨[.type "enumerate", .ref z], [(Str.ofString "start", .int k t)]⟩) (fun _ R s => IsZip s.heap z TI TO f0 ∧ R (.ok (.ret (.ref s.heap.objs.size))) { s with heap := s.heap.push (ezObj z k) }) :=
  .of_wp fun prog w A R s h => by
    obtain ⟨hp, gn, dr, tk, os⟩ := s
    obtain ⟨hz, h⟩ := h
    have sb := sub_enumerate
    have nf : (!Builtin.SmallTypes.fitsIndex k) = false := by rw [hfit]; rfl
    have itr : ∀ {A' : Around} {E : Value → Shared → Prop} {Q : Value → Shared → Prop}, Q (.ref z) ⟨hp, gn, dr, tk, os⟩ → wpAny (model prog w) A' (pyIter (.ref z)) Q E ⟨hp, gn, dr, tk, os⟩ := fun q => wpAny_pyIter_zip hz q
    have w1 : (Str.ofString "start" == ("start" : Str)) = true ∧ (Str.ofString "start" != ("start" : Str)) = false ∧ (Str.ofString "start" != ("iterable" : Str)) = true ∧ (("start" : Str) == Str.ofString "start") = true ∧ (("iterable" : Str) == Str.ofString "start") = false := by decide +kernel
    obtain ⟨w1, w2, w3, w4, w5⟩ := w1
    wp_walk using itr
    refine wpAny_stack_any fun st => ?_
    apply wpAny_pure
    split
    · rename_i c _ _ _ _ _
      by_cases q : (c == Value.type "enumerate") = true
      · rw [q]
        wp_walk using itr
        exact ⟨_, rfl, h⟩
      · rw [Bool.eq_false_iff.mpr q]
        wp_walk using itr
        exact ⟨_, rfl, h⟩
    · wp_walk using itr
      exact ⟨_, rfl, h⟩
theorem ez_begins {X : Cx} {A : Around} {E : Value → Shared → Prop} {s : Shared} {z TI TO : Addr} {f0 : Value} {k : Int} {t : Tok} {Q : Value → Shared → Prop} (hz : IsZip s.heap z TI TO f0) (hk0 : -(2 ^ 63) ≤ k) (hk1 : k < 2 ^ 63)
    (h : Q (.ref s.heap.objs.size) { s with heap := s.heap.push (ezObj z k) }) :
    wpAny (model X.prog X.w) A (call (.type "enumerate") [.ref z] [(Str.ofString "start", .int k t)]) Q E s :=
  callType_newKw F.called_enumerate (by decide) (F.typeCall_enumerate_start _ _) (F.newCall_enumerate_start _ _) (fun obj => F.args_object_init_start obj _ _) F.entry_enumerate_new
    (meets_ez k t (fits_start hk0 hk1)) ⟨hz, ⟨_, Heap.get?_push_size _ rfl, rfl⟩, h⟩
/-- what a walk over enumerate(zip(xs, ys), start=c) asks -/
def iEnumZ (K : PySem.W.Frag) (c : Int) (ta : TA) : TI := fun σ H R => ta σ H fun vs H1 => ∃ (a b : Addr) (xs ys : List V), vs = [.ref a, .ref b] ∧ SqL K H1 a xs ∧ SqL K H1 b ys ∧ R (Iez K a b c) H1
theorem pi_enumZ {X : Cx} {e1 e2 : Expr} {ta : TA} {c : Int} {j : Nat} {kp kq p pos p2 pos2 tpos : Pos} {elts : List Expr} {kk : Nat} (hc0 : -1000000 ≤ c) (hc1 : c ≤ 1000000) (hg : Gl X "enumerate") (hm : X.mg "enumerate" = none) (hgz : Gl X "zip") (hmz : X.mg "zip" = none) (ha : PA X [e1, e2] ta)
    (hs : starEach [e1, e2] X.env = (false, eval e1 X.env) :: starEach [e2] X.env := by rfl) (hpl : (backTo pos2 (starEach [e2] X.env)).any (·.1) = false := by rfl)
    (hz : backTo pos (starEach [.Call (.Name "zip" p2) [e1, e2] [] pos2] X.env) = [(false, eval (.Call (.Name "zip" p2) [e1, e2] [] pos2) X.env)] := by rfl)
    (hall : (backToKw pos (keywordEach [⟨some (Str.ofString "start"), .Constant (.int c) j kp, kq⟩] X.env)).all (·.1.isSome) = true := by rfl) (hnn : (backToKw pos (keywordEach [⟨some (Str.ofString "start"), .Constant (.int c) j kp, kq⟩] X.env)).any (·.1.isNone) = false := by rfl) :
    PI X (.Tuple elts kk tpos) (.Call (.Name "enumerate" p) [.Call (.Name "zip" p2) [e1, e2] [] pos2] [⟨some (Str.ofString "start"), .Constant (.int c) j kp, kq⟩] pos) (iEnumZ X.K c ta) := by
  refine ⟨fun pins s σ H R I h => ?_⟩
  refine wpAny_Call_Name_kw (ld_blt I hg hm boot_enumerate ?_)
  rw [hz]
  refine PySem.W.callWith_of (P := fun _ => True) (by rw [hnn]; rfl) (fun h _ => ⟨.machine, .inr (.inl rfl), .of_pure rfl⟩) (evalArgs_kwB hall ?_)
  refine Calls.spliced_cons (Call_ (ld_blt I hgz hmz PyProof.Rows.boot_zip (PyProof.Rows.callWith_type1 (thn (ha.run pos2 pins s σ H _ I h) fun us s1 ⟨vs, H1, I1, r1, q1⟩ => ?_) hs hpl)))
  obtain ⟨a, b, xs, ys, ex, hqx, hqy, q⟩ := q1
  subst ex
  cases r1 with
  | cons r rr =>
    cases rr with
    | cons r' rr =>
      cases rr
      cases r
      cases r'
      obtain ⟨its, rv, pl1, _⟩ := I1.list hqx
      obtain ⟨its2, rv2, pl2, _⟩ := I1.list hqy
      have la : a < s1.heap.objs.size := pl1.lt
      have lb : b < s1.heap.objs.size := pl2.lt
      refine call_zip_2 pl1.isList pl2.isList fun h' hz' hTI hTO h1 h2 hsz hk => Calls.spliced_nil (PyProof.Rows.kws_cons (wpAny_Constant_int (PyProof.Rows.kws_nil ⟨trivial, ?_⟩)))
      refine ez_begins (X := X) (s := { s1 with heap := h', toks := s1.toks + 1 }) hz' (by omega) (by omega) ?_
      have he : IsEnum (h'.push (ezObj (s1.heap.objs.size + 4) c)) h'.objs.size (s1.heap.objs.size + 4) c .none := Heap.get?_push_size _ rfl
      have kp' : ∀ b o, h'.get? b = some o → (h'.push (ezObj (s1.heap.objs.size + 4) c)).get? b = some o := fun b o r => Heap.get?_push_of_some _ r
      refine wpAny_pyIter_enum he ?_
      have I2 : Inv X pins σ H1 { s1 with heap := h'.push (ezObj (s1.heap.objs.size + 4) c), toks := s1.toks + 1 } := I1.kept (t' := s1.toks + 1) fun b o r => kp' b o (hk b o r)
      have SN : h'.objs.size = s1.heap.objs.size + 5 := hsz
      have off : h'.objs.size ∉ [s1.heap.objs.size + 4, s1.heap.objs.size + 2, s1.heap.objs.size + 3, s1.heap.objs.size, s1.heap.objs.size + 1] := by
        rw [SN]
        intro w
        have w' : s1.heap.objs.size + 5 = s1.heap.objs.size + 4 ∨ s1.heap.objs.size + 5 = s1.heap.objs.size + 2 ∨ s1.heap.objs.size + 5 = s1.heap.objs.size + 3 ∨ s1.heap.objs.size + 5 = s1.heap.objs.size ∨ s1.heap.objs.size + 5 = s1.heap.objs.size + 1 := by simpa using w
        rcases w' with w | w | w | w | w <;> exact absurd w (by intro z; have : (s1.heap.objs.size + 5 : Nat) = _ := z; omega)
      have zc : ZCell (s1.heap.objs.size + 4) (s1.heap.objs.size + 2) (s1.heap.objs.size + 3) s1.heap.objs.size (s1.heap.objs.size + 1) a b 0 h' := ⟨hTI, h1, h2, ⟨_, _, hTO⟩, .inl hz'⟩
      refine ⟨h'.objs.size, h'.objs.size :: [s1.heap.objs.size + 4, s1.heap.objs.size + 2, s1.heap.objs.size + 3, s1.heap.objs.size, s1.heap.objs.size + 1], _, _, H1, rfl, I2, turn_enumZ c (PySem.W.ktu_apart s1.heap.objs.size a b la lb) off, ⟨⟨.none, by simpa using he⟩, zc.keep fun b _ o r => kp' b o r⟩, fun b hb => ?_, q⟩
      have hle : s1.heap.objs.size ≤ b := by
        rcases List.mem_cons.mp hb with w | w
        · rw [w, SN]; exact Nat.le_add_right _ _
        · have w' : b = s1.heap.objs.size + 4 ∨ b = s1.heap.objs.size + 2 ∨ b = s1.heap.objs.size + 3 ∨ b = s1.heap.objs.size ∨ b = s1.heap.objs.size + 1 := by simpa using w
          rcases w' with w | w | w | w | w <;> rw [w]
          · exact Nat.le_add_right _ _
          · exact Nat.le_add_right _ _
          · exact Nat.le_add_right _ _
          · exact Nat.le_refl _
          · exact Nat.le_add_right _ _
      exact I1.fpOk hle (I1.hok.fresh hle)
theorem pi_enumZK {X : Cx} (K : PySem.W.Frag) {e1 e2 : Expr} {ta : TA} {c : Int} {j : Nat} {kp kq p pos p2 pos2 tpos : Pos} {elts : List Expr} {kk : Nat} (hc0 : -1000000 ≤ c) (hc1 : c ≤ 1000000) (hg : Gl X "enumerate") (hm : X.mg "enumerate" = none) (hgz : Gl X "zip") (hmz : X.mg "zip" = none) (ha : PA X [e1, e2] ta) (hK : X.K = K := by rfl)
    (hs : starEach [e1, e2] X.env = (false, eval e1 X.env) :: starEach [e2] X.env := by rfl) (hpl : (backTo pos2 (starEach [e2] X.env)).any (·.1) = false := by rfl)
    (hz : backTo pos (starEach [.Call (.Name "zip" p2) [e1, e2] [] pos2] X.env) = [(false, eval (.Call (.Name "zip" p2) [e1, e2] [] pos2) X.env)] := by rfl)
    (hall : (backToKw pos (keywordEach [⟨some (Str.ofString "start"), .Constant (.int c) j kp, kq⟩] X.env)).all (·.1.isSome) = true := by rfl) (hnn : (backToKw pos (keywordEach [⟨some (Str.ofString "start"), .Constant (.int c) j kp, kq⟩] X.env)).any (·.1.isNone) = false := by rfl) :
    PI X (.Tuple elts kk tpos) (.Call (.Name "enumerate" p) [.Call (.Name "zip" p2) [e1, e2] [] pos2] [⟨some (Str.ofString "start"), .Constant (.int c) j kp, kq⟩] pos) (iEnumZ K c ta) := hK ▸ pi_enumZ hc0 hc1 hg hm hgz hmz ha hs hpl hz hall hnn
section
variable {K : PySem.W.Frag} {σ : L2.St} {H : Hp} {ta : TA} {R : L2.It → Hp → Prop} {a b : Addr} {xs ys : List V} {c : Int} {n : Nat}
theorem r_iEnumZ (h : ta σ H fun vs H1 => ∃ (a b : Addr) (xs ys : List V), vs = [.ref a, .ref b] ∧ SqL K H1 a xs ∧ SqL K H1 b ys ∧ R (Iez K a b c) H1) : iEnumZ K c ta σ H R := h
/-- the pair and the pair around it, both new -/
def YEz (c : Int) (xs ys : List V) : Nat → Hp → V → Hp → Prop := fun i H v H' => ∃ T T2 x y, v = .ref T2 ∧ H T = none ∧ H T2 = none ∧ T ≠ T2 ∧ H' = upd (upd H T (.tup [x, y])) T2 (.tup [.int (c + (i : Nat)), .ref T]) ∧ xs[i]? = some x ∧ ys[i]? = some y
theorem walk_enumZ (hn : n = min xs.length ys.length) : Walk (Iez K a b c) n (fun H => SqL K H a xs ∧ SqL K H b ys) (YEz c xs ys) :=
  ⟨fun i _ hi q => ⟨xs, ys, xs[i]'(by omega), ys[i]'(by omega), q.1, q.2, List.getElem?_eq_getElem _, List.getElem?_eq_getElem _⟩, fun _ q => ⟨xs, ys, q.1, q.2, by omega⟩,
    fun i H v H' _ q ⟨T, T2, x, y, e1, e2, e3, e4, e5, e6, e7⟩ => ⟨T, T2, x, y, e1, e2, e3, e4, e5, e6 xs q.1, e7 ys q.2⟩⟩
end
end Xk
local macro_rules | `(tactic| fail "ww1") => `(tactic| with_reducible refine Xk.r_iEnumZ ?_)

set_option Elab.async false
set_option linter.all false
set_option maxRecDepth 100000
namespace Xk
open PySem PySem.Spec PyProof.Rows L2
/-! ### a op1 b op2 c op3 d -/
section
variable {X : Cx} {a b c d : Expr} {ta tb tc td : TE} {pos : Pos}
def tChain3 (r r' r'' : R2) (ta tb tc td : TE) : TE := fun σ H Q => ta σ H fun x H1 => tb σ H1 fun y H2 => r x y H2 fun z H3 => ∃ k, z = .bl k ∧
  (if k = true then tc σ H3 fun w H4 => r' y w H4 fun z2 H5 => ∃ k2, z2 = .bl k2 ∧ (if k2 = true then td σ H5 fun u H6 => r'' w u H6 Q else Q (.bl false) H5) else Q (.bl false) H3)
theorem pt_chain3 {op op' op2 : CmpOp} {r r' r'' : R2} (ho : OpR X (compareOp op) r) (ho' : OpR X (compareOp op') r') (ho2 : OpR X (compareOp op2) r'') (ha : PE X a ta) (hb : PE X b tb) (hc : PE X c tc) (hd : PE X d td)
    (hm : lastMarks [op, op', op2] [b, c, d] = false := by with_unfolding_all rfl) : PT X (.Compare a [op, op', op2] [b, c, d] pos) (tTest (tChain3 r r' r'' ta tb tc td)) := by
  refine ⟨fun pins s σ H Q I h => ?_⟩
  refine isTrue_chain (thn (ha.run pins s σ H _ I h) fun v s1 ⟨x, H1, I1, r1, q1⟩ => test_link (thn (hb.run pins s1 σ H1 _ I1 q1) fun u s2 ⟨y, H2, I2, r2, q2⟩ =>
    thn (ho pins s2 σ H2 x y v u _ I2 r1 r2 q2) fun d s3 ⟨z, H3, I3, r3, k, e, q3⟩ => ?_)) hm
  subst e
  cases r3
  refine wpAny_truthy_bool ?_
  cases k with
  | false =>
    obtain ⟨k', e', q'⟩ := q3
    cases e'
    exact ite_ff ⟨H3, I3, q'⟩
  | true =>
    refine ite_tt (test_link (thn (hc.run pins s3 σ H3 _ I3 q3) fun w' s4 ⟨z', H4, I4, r4, q4⟩ => thn (ho' pins s4 σ H4 y z' u w' _ I4 r2 r4 q4) fun d' s5 ⟨z2, H5, I5, r5, k2, e2, q5⟩ => ?_))
    subst e2
    cases r5
    refine wpAny_truthy_bool ?_
    cases k2 with
    | false =>
      obtain ⟨k', e', q'⟩ := q5
      cases e'
      exact ite_ff ⟨H5, I5, q'⟩
    | true =>
      refine ite_tt (test_last (thn (hd.run pins s5 σ H5 _ I5 q5) fun w2 s6 ⟨z6, H6, I6, r6, q6⟩ => thn (ho2 pins s6 σ H6 z' z6 w' w2 _ I6 r4 r6 q6) fun d' s7 ⟨z3, H7, I7, r7, k3, e3, q7⟩ => ?_))
      subst e3
      cases r7
      exact wpAny_truthy_bool ⟨H7, I7, q7⟩
theorem pe_chain3 {op op' op2 : CmpOp} {r r' r'' : R2} (ho : OpR X (compareOp op) r) (ho' : OpR X (compareOp op') r') (ho2 : OpR X (compareOp op2) r'') (ha : PE X a ta) (hb : PE X b tb) (hc : PE X c tc) (hd : PE X d td)
    (hm : lastMarks [op, op', op2] [b, c, d] = false := by with_unfolding_all rfl) : PE X (.Compare a [op, op', op2] [b, c, d] pos) (tChain3 r r' r'' ta tb tc td) := by
  refine ⟨fun pins s σ H Q I h => ?_⟩
  refine Compare_chain (thn (ha.run pins s σ H _ I h) fun v s1 ⟨x, H1, I1, r1, q1⟩ => chain_link (thn (hb.run pins s1 σ H1 _ I1 q1) fun u s2 ⟨y, H2, I2, r2, q2⟩ =>
    thn (ho pins s2 σ H2 x y v u _ I2 r1 r2 q2) fun d s3 ⟨z, H3, I3, r3, k, e, q3⟩ => ?_)) hm
  subst e
  cases r3
  refine wpAny_truthy_bool ?_
  cases k with
  | false => exact ite_ff ⟨.bl false, H3, I3, rfl, q3⟩
  | true =>
    refine ite_tt (chain_link (thn (hc.run pins s3 σ H3 _ I3 q3) fun w' s4 ⟨z', H4, I4, r4, q4⟩ => thn (ho' pins s4 σ H4 y z' u w' _ I4 r2 r4 q4) fun d' s5 ⟨z2, H5, I5, r5, k2, e2, q5⟩ => ?_))
    subst e2
    cases r5
    refine wpAny_truthy_bool ?_
    cases k2 with
    | false => exact ite_ff ⟨.bl false, H5, I5, rfl, q5⟩
    | true => exact ite_tt (chain_last (thn (hd.run pins s5 σ H5 _ I5 q5) fun w2 s6 ⟨z6, H6, I6, r6, q6⟩ => ho2 pins s6 σ H6 z' z6 w' w2 Q I6 r4 r6 q6))
theorem c_chain3 {r r' r'' : R2} {σ : L2.St} {H : Hp} {Q : VK} (h : ta σ H fun x H1 => tb σ H1 fun y H2 => r x y H2 fun z H3 => ∃ k, z = .bl k ∧
  (if k = true then tc σ H3 fun w H4 => r' y w H4 fun z2 H5 => ∃ k2, z2 = .bl k2 ∧ (if k2 = true then td σ H5 fun u H6 => r'' w u H6 Q else Q (.bl false) H5) else Q (.bl false) H3)) : tChain3 r r' r'' ta tb tc td σ H Q := h
end
end Xk
local macro_rules | `(tactic| fail "ww1") => `(tactic| with_reducible refine Xk.c_chain3 ?_)

set_option Elab.async false
set_option linter.all false
set_option maxRecDepth 100000
set_option maxHeartbeats 4000000
namespace Xk
open PySem PySem.Spec PyProof.Rows L2
/-! ### dicts with tuples as keys -/
/-- {k: v}, k a tuple -/
def tDispT (trs : List (TE × TE)) : TE := fun σ H Q => ∀ p, H p = none → tPairs trs σ (upd H p (.dT [])) fun ps H2 => H2 p = some (.dT []) ∧ ∃ (b : Addr) (ks : List Key) (v : V), ps = [(.ref b, v)] ∧ H2 b = some (.tup (ks.map kV)) ∧ Q (.ref p) (upd H2 p (.dT [(ks, v)]))
section
variable {X : Cx}
theorem vv_one {b : Addr} {x : V} : ∀ {vs : List (Value × Value)}, Paired (fun (p : V × V) (q : Value × Value) => RelV p.1 q.1 ∧ RelV p.2 q.2) [(.ref b, x)] vs → ∃ u, vs = [(.ref b, u)] ∧ RelV x u
  | _, .cons (b := (w1, w2)) h .nil => by
    have e : w1 = Value.ref b := h.1
    exact ⟨w2, by rw [e], h.2⟩
theorem pe_dispT {k v : Expr} {trs : List (TE × TE)} {pos : Pos} (hu : X.A.units + 64 < cLine) (h : PPs X pos [some k] [v] trs) : PE X (.Dict [some k] [v] pos) (tDispT trs) := by
  refine ⟨fun pins s σ H Q I z => ?_⟩
  have I1 : Inv X pins σ (upd H s.heap.objs.size (.dT [])) { s with heap := s.heap.push { cls := .type "dict", data := .dict #[] } } :=
    I.laid (t' := s.toks) (fun b o y => Heap.get?_push_of_some _ y) (Nat.le_refl _) (dt_empty _ I.big)
  have np : H s.heap.objs.size = none := I.hok.fresh (Nat.le_refl _)
  have hrun := h.run pins _ σ _ _ I1 (z _ np)
  obtain ⟨pr, epr⟩ : ∃ pr, pairTrees [some k] [v] X.env pos = [pr] := ⟨_, rfl⟩
  have earm : eval (.Dict [some k] [v] pos) X.env = (do standAt pos; dictDisplay (List.map (fun p => (some p.1, p.2)) (pairTrees [some k] [v] X.env pos))) := arm_eval_Dict _ _ _ _
  rw [earm, epr]
  rw [epr] at hrun
  clear earm epr
  rw [dictDisplay_pairs [pr] (List.cons_ne_nil _ _) (by show 1 < 17; decide)]
  refine wpAny_bind (wpAny_standAt ?_)
  refine wpAny_bind (wpAny_subDictH (knd := tupleKind (mixKind X.prog X.w)) (by show X.A.units < cLine; omega) (by show 1 ≤ 15; decide) ?_)
  refine wpAny_mono hrun (fun vs s1 ⟨ps, H2, J, hv, hp, b, ks, x, eps, hb, q⟩ => ?_) fun _ _ y => y
  subst eps
  obtain ⟨u, rfl, hu'⟩ : ∃ u, vs = [(.ref b, u)] ∧ RelV x u := vv_one hv
  obtain ⟨_, low, xs, hk, hd⟩ := dt_of J.hok hp
  cases hk
  refine ⟨[(ks, b, u)], ⟨rfl, rfl, key_of J.hok hb, True.intro⟩, hd, fun h' tk hd' sb => ?_⟩
  refine wpAny_pure ⟨.ref _, _, d_write J (by rw [hp]; exact True.intro) sb ?_ ?_, rfl, q⟩
  · obtain ⟨o, _, _, ho, _⟩ := hd'; exact ⟨o, ho⟩
  · obtain ⟨o, es, ep, h1, h2, h3, h4, h5, h6⟩ := hd'
    exact ⟨by show 1 ≤ sizeLine; rw [sizeLine_eq]; decide, low, [(ks, b, u)], .cons ⟨rfl, (by rw [upd_ne (ne_of hb hp (by intro z; cases z))]; exact hb), hu'⟩ .nil, o, es, ep, h1, h2, h3, h4, h6⟩
end
end Xk
namespace Xk
open PySem PySem.Spec PyProof.Rows L2
section
variable {σ : L2.St} {H : Hp} {Q : VK} {ty td te : TE} {trs : List (TE × TE)} {R : It → Hp → Prop}
theorem r_dnotin (h : ty σ H fun y H1 => td σ H1 fun x H2 => ∃ a o, x = .ref a ∧ DGet H2 a y o ∧ Q (.bl (!o.isSome)) H2) : tDNotIn ty td σ H Q := h
theorem r_din (h : ty σ H fun y H1 => td σ H1 fun x H2 => ∃ a o, x = .ref a ∧ DGet H2 a y o ∧ Q (.bl o.isSome) H2) : tDIn ty td σ H Q := h
theorem r_dgetT (h : td σ H fun x H1 => ty σ H1 fun y H2 => ∃ a v, x = .ref a ∧ DGet H2 a y (some v) ∧ Q v H2) : tDGet td ty σ H Q := h
theorem r_dispT (h : ∀ p, H p = none → tPairs trs σ (upd H p (.dT [])) fun ps H2 => H2 p = some (.dT []) ∧ ∃ (b : Addr) (ks : List Key) (v : V), ps = [(.ref b, v)] ∧ H2 b = some (.tup (ks.map kV)) ∧ Q (.ref p) (upd H2 p (.dT [(ks, v)]))) : tDispT trs σ H Q := h
theorem r_lockE {t : TE} (d : Addr) (kvs : List (List Key × V)) (hd : H d = some (.dT kvs)) (h : ∀ od, t σ (upd H d (.frz od (.dT kvs))) fun v H' => H' d = some (.frz od (.dT kvs)) ∧ Q v (upd H' d (.dT kvs))) : tLockE t σ H Q := ⟨d, _, hd, True.intro, h⟩
theorem r_dput {tv : TE} {D : Ends} (h : tv σ H fun v H1 => td σ H1 fun x H2 => ty σ H2 fun y H3 => ∃ a H4, x = .ref a ∧ DPut H3 a y v H4 ∧ D.nx σ H4) : sDPut td ty tv D σ H := h
theorem walk_keysT {d : Addr} {o : Obj} {kvs : List (List Key × V)} : Walk (Itkt d o kvs) kvs.length (fun H => H d = some (.frz o (.dT kvs))) (fun i H x H' => H' = H ∧ ∃ k v q, kvs[i]? = some (k, v) ∧ x = .ref q ∧ H q = some (.tup (k.map kV))) :=
  ⟨fun i H hi h => ⟨h, hi⟩, fun H h => ⟨h, Nat.le_refl _⟩, fun i H x H' _ _ y => y⟩
theorem r_iKeysT {Rr : It → Hp → Prop} (h : td σ H fun x H1 => ∃ d o kvs, x = .ref d ∧ H1 d = some (.frz o (.dT kvs)) ∧ Rr (Itkt d o kvs) H1) (hm : ∀ (P P' : V → Hp → Prop), (∀ x H, P x H → P' x H) → td σ H P → td σ H P') : iKeys td σ H Rr :=
  hm _ _ (fun x H1 ⟨d, o, kvs, e, g, r⟩ => ⟨d, o, e, .inr ⟨kvs, g, r⟩⟩) h
end
end Xk
local macro_rules | `(tactic| fail "ww1") => `(tactic| with_reducible first | refine Xk.r_dnotin ?_ | refine Xk.r_din ?_ | refine Xk.r_dispT ?_ | refine Xk.r_dput ?_)

namespace My
def IsArr (l : List Int) : Prop := l.Nodup ∧ ∀ v ∈ l, 1 ≤ v ∧ v ≤ l.length
/-- how many of the first p values are at most q -/
def cnt (l : List Int) (p q : Nat) : Nat := ((l.take p).filter (fun v => decide (v ≤ (q : Int)))).length
theorem cnt_zero (l : List Int) (q : Nat) : cnt l 0 q = 0 := by simp [cnt]
theorem cnt_succ {l : List Int} {p : Nat} (h : p < l.length) (q : Nat) : cnt l (p + 1) q = cnt l p q + if l[p] ≤ (q : Int) then 1 else 0 := by
  unfold cnt
  rw [List.take_add_one, List.getElem?_eq_getElem h, List.filter_append, List.length_append]
  by_cases e : l[p] ≤ (q : Int) <;> simp [e]
def AtMost (a b : List Int) : Prop := ∀ p q : Nat, cnt b p q ≤ cnt a p q
theorem cnt_all {l : List Int} {p q : Nat} (h : ∀ v ∈ l, v ≤ (q : Int)) : cnt l p q = min p l.length := by
  unfold cnt
  rw [List.filter_eq_self.mpr fun v hv => decide_eq_true (h v (List.mem_of_mem_take hv)), List.length_take]
theorem cnt_none {l : List Int} {p : Nat} (h : ∀ v ∈ l, 1 ≤ v) : cnt l p 0 = 0 := by
  unfold cnt
  rw [List.length_eq_zero_iff, List.filter_eq_nil_iff]
  intro v hv
  have := h v (List.mem_of_mem_take hv)
  simp; omega
theorem cnt_over {l : List Int} {p q : Nat} (h : l.length ≤ p) : cnt l p q = cnt l l.length q := by
  unfold cnt
  rw [List.take_of_length_le h, List.take_of_length_le (Nat.le_refl _)]
/-- counts with limits below the size tell everything -/
theorem most_iff {a b : List Int} (ha : IsArr a) (hb : IsArr b) (hl : a.length = b.length) : AtMost a b ↔ ∀ p, p ≤ a.length → ∀ q, q < a.length → cnt b p q ≤ cnt a p q := by
  refine ⟨fun h p _ q _ => h p q, fun h p q => ?_⟩
  have key : ∀ p, p ≤ a.length → cnt b p q ≤ cnt a p q := fun p hp => by
    by_cases hq : q < a.length
    · exact h p hp q hq
    · rw [cnt_all fun v hv => Int.le_trans (hb.2 v hv).2 (by omega), cnt_all fun v hv => Int.le_trans (ha.2 v hv).2 (by omega), hl]
      exact Nat.le_refl _
  by_cases hp : p ≤ a.length
  · exact key p hp
  · rw [cnt_over (l := a) (by omega), cnt_over (l := b) (by omega), ← hl]
    exact key _ (Nat.le_refl _)
noncomputable instance (a b : List Int) : Decidable (AtMost a b) := Classical.propDecidable _
theorem arr_asc {l : List Int} {n : Nat} (h : l.Perm ((List.range n).map fun (i : Nat) => (1 + i : Int))) : IsArr l := by
  have hl : l.length = n := by rw [h.length_eq]; simp
  refine ⟨h.symm.nodup ?_, fun v hv => ?_⟩
  · rw [List.Nodup, List.pairwise_map]
    exact List.nodup_range.imp fun h q => h (by omega)
  · obtain ⟨k, hk, rfl⟩ := List.mem_map.mp (h.mem_iff.mp hv)
    have := List.mem_range.mp hk
    omega
/-- a row of numbers by a function of the place -/
def tab (n : Nat) (f : Nat → Int) : List Int := (List.range n).map f
theorem tab_len (n : Nat) (f : Nat → Int) : (tab n f).length = n := by simp [tab]
theorem tab_get {n : Nat} {f : Nat → Int} {k : Nat} (h : k < n) : (tab n f)[k]? = some (f k) := by simp [tab, h]
theorem tab_set {n : Nat} {f : Nat → Int} {k : Nat} {v : Int} : (tab n f).set k v = tab n fun q => if q = k then v else f q := by
  apply List.ext_getElem
  · simp [tab]
  · intro i h1 h2
    rw [List.getElem_set]
    simp only [tab, List.getElem_map, List.getElem_range]
    by_cases e : k = i
    · subst e; simp
    · rw [if_neg e, if_neg (fun q => e q.symm)]
theorem tab_congr {n : Nat} {f g : Nat → Int} (h : ∀ q, q < n → f q = g q) : tab n f = tab n g := by
  unfold tab
  exact List.map_congr_left fun q hq => h q (List.mem_range.mp hq)
theorem tab_const (n : Nat) (c : Int) : List.replicate n c = tab n fun _ => c := by
  apply List.ext_getElem <;> simp [tab]
end My
namespace My
/-! ### sorted lists -/
def ins (x : Int) : List Int → List Int
  | [] => [x]
  | y :: r => if x ≤ y then x :: y :: r else y :: ins x r
def srt : List Int → List Int
  | [] => []
  | x :: r => ins x (srt r)
theorem ins_perm (x : Int) : ∀ l : List Int, (ins x l).Perm (x :: l)
  | [] => List.Perm.refl _
  | y :: r => by
    unfold ins
    split
    · exact List.Perm.refl _
    · exact ((ins_perm x r).cons y).trans (List.Perm.swap x y r)
theorem srt_perm : ∀ l : List Int, (srt l).Perm l
  | [] => List.Perm.refl _
  | x :: r => (ins_perm x (srt r)).trans ((srt_perm r).cons x)
theorem ins_up (x : Int) : ∀ l : List Int, l.Pairwise (· ≤ ·) → (ins x l).Pairwise (· ≤ ·)
  | [], _ => List.pairwise_singleton _ _
  | y :: r, h => by
    have h1 := List.pairwise_cons.mp h
    unfold ins
    split
    · rename_i hxy
      exact List.pairwise_cons.mpr ⟨fun z hz => by
        rcases List.mem_cons.mp hz with e | e
        · rw [e]; exact hxy
        · exact Int.le_trans hxy (h1.1 z e), h⟩
    · refine List.pairwise_cons.mpr ⟨fun z hz => ?_, ins_up x r h1.2⟩
      rcases List.mem_cons.mp ((ins_perm x r).mem_iff.mp hz) with e | e
      · rw [e]; omega
      · exact h1.1 z e
theorem srt_up : ∀ l : List Int, (srt l).Pairwise (· ≤ ·)
  | [] => List.Pairwise.nil
  | x :: r => ins_up x _ (srt_up r)
theorem up_unique : ∀ {l m : List Int}, l.Perm m → l.Pairwise (· ≤ ·) → m.Pairwise (· ≤ ·) → l = m
  | [], m, h, _, _ => (h.nil_eq).symm ▸ rfl
  | x :: r, m, h, h1, h2 => by
    cases m with
    | nil => exact absurd h.eq_nil (by simp)
    | cons y t =>
      have a1 := List.pairwise_cons.mp h1
      have a2 := List.pairwise_cons.mp h2
      have e : x = y := by
        have hx : x ∈ y :: t := h.mem_iff.mp List.mem_cons_self
        have hy : y ∈ x :: r := h.mem_iff.mpr List.mem_cons_self
        rcases List.mem_cons.mp hx with q | q
        · exact q
        · rcases List.mem_cons.mp hy with q' | q'
          · exact q'.symm
          · have := a1.1 y q'; have := a2.1 x q; omega
      subst e
      rw [up_unique ((List.perm_cons x).mp h) a1.2 a2.2]
theorem srt_is {l m : List Int} (h : m.Perm l) (u : m.Pairwise (· ≤ ·)) : m = srt l := up_unique (h.trans (srt_perm l).symm) u (srt_up l)
theorem srt_len (l : List Int) : (srt l).length = l.length := (srt_perm l).length_eq
/-- the values at the places i to j sorted -/
def seg (l : List Int) (i j : Nat) : List Int := l.take (i - 1) ++ srt ((l.drop (i - 1)).take (j - (i - 1))) ++ l.drop j
theorem seg_perm {l : List Int} {i j : Nat} (h1 : i ≤ j) (_h2 : j ≤ l.length) : (seg l i j).Perm l := by
  unfold seg
  have e : l = l.take (i - 1) ++ (l.drop (i - 1)).take (j - (i - 1)) ++ l.drop j := by
    conv => lhs; rw [← List.take_append_drop (i - 1) l, ← List.take_append_drop (j - (i - 1)) (l.drop (i - 1)), List.drop_drop]
    rw [List.append_assoc, show i - 1 + (j - (i - 1)) = j by omega]
  conv => rhs; rw [e]
  exact ((srt_perm _).append_left _).append_right _
theorem seg_len {l : List Int} {i j : Nat} (h1 : i ≤ j) (h2 : j ≤ l.length) : (seg l i j).length = l.length := (seg_perm h1 h2).length_eq
abbrev Cmd := Nat × Nat
def step (l : List Int) (c : Cmd) : List Int := seg l c.1 c.2
def runM (l : List Int) (cs : List Cmd) : List Int := cs.foldl step l
/-- the commands fit rows of n places -/
def Fits (n : Nat) (cs : List Cmd) : Prop := ∀ c ∈ cs, 1 ≤ c.1 ∧ c.1 ≤ c.2 ∧ c.2 ≤ n
theorem runM_perm : ∀ (cs : List Cmd) (l : List Int), Fits l.length cs → (runM l cs).Perm l
  | [], l, _ => List.Perm.refl l
  | c :: r, l, h => by
    have hc := h c List.mem_cons_self
    have p := seg_perm hc.2.1 hc.2.2
    refine List.Perm.trans (runM_perm r (step l c) ?_) p
    show Fits (seg l c.1 c.2).length r
    rw [p.length_eq]
    exact fun d hd => h d (List.mem_cons_of_mem _ hd)
theorem runM_len {cs : List Cmd} {l : List Int} (h : Fits l.length cs) : (runM l cs).length = l.length := (runM_perm cs l h).length_eq
theorem runM_snoc (l : List Int) (cs : List Cmd) (c : Cmd) : runM l (cs ++ [c]) = step (runM l cs) c := by unfold runM; rw [List.foldl_append]; rfl
theorem runM_app (l : List Int) (cs ds : List Cmd) : runM l (cs ++ ds) = runM (runM l cs) ds := List.foldl_append ..
theorem Fits.take {n k : Nat} {cs : List Cmd} (h : Fits n cs) : Fits n (cs.take k) := fun c hc => h c (List.mem_of_mem_take hc)
theorem Fits.drop {n k : Nat} {cs : List Cmd} (h : Fits n cs) : Fits n (cs.drop k) := fun c hc => h c (List.mem_of_mem_drop hc)
end My
namespace My
/-! ### counts of small values ahead of a place -/
def zc (l : List Int) (t : Int) (p : Nat) : Nat := (l.take p).countP (fun v => decide (v ≤ t))
theorem zc_succ {l : List Int} {p : Nat} (h : p < l.length) (t : Int) : zc l t (p + 1) = zc l t p + if l[p] ≤ t then 1 else 0 := by
  unfold zc
  rw [List.take_add_one, List.getElem?_eq_getElem h, List.countP_append]
  by_cases g : l[p] ≤ t <;> simp [g]
theorem zc_le (l : List Int) (t : Int) (p : Nat) : zc l t p ≤ p := Nat.le_trans List.countP_le_length (by rw [List.length_take]; omega)
theorem zc_step (l : List Int) (t : Int) (p : Nat) : zc l t p ≤ zc l t (p + 1) ∧ zc l t (p + 1) ≤ zc l t p + 1 := by
  by_cases h : p < l.length
  · rw [zc_succ h]; split <;> omega
  · have : zc l t (p + 1) = zc l t p := by unfold zc; rw [List.take_of_length_le (by omega), List.take_of_length_le (by omega)]
    omega
theorem zc_mono {l : List Int} {t : Int} {p : Nat} : ∀ d, zc l t p ≤ zc l t (p + d) ∧ zc l t (p + d) ≤ zc l t p + d
  | 0 => by simp
  | d + 1 => by
    have h1 := zc_mono (l := l) (t := t) (p := p) d
    have h2 := zc_step l t (p + d)
    rw [show p + (d + 1) = p + d + 1 by omega]
    omega
theorem up_zc (t : Int) : ∀ (s : List Int) (k : Nat), s.Pairwise (· ≤ ·) → zc s t k = min k (s.countP (fun v => decide (v ≤ t)))
  | [], k, _ => by simp [zc]
  | x :: r, 0, _ => by simp [zc]
  | x :: r, k + 1, h => by
    have h1 := List.pairwise_cons.mp h
    have ih := up_zc t r k h1.2
    unfold zc at ih ⊢
    rw [List.take_succ_cons, List.countP_cons, List.countP_cons]
    by_cases g : x ≤ t
    · simp only [g, decide_true, if_true]; rw [ih]; omega
    · have z : r.countP (fun v => decide (v ≤ t)) = 0 := List.countP_eq_zero.mpr fun v hv => by have := h1.1 v hv; simp; omega
      rw [z] at ih ⊢
      simp only [g, decide_false, Bool.false_eq_true, if_false]; rw [ih]; simp
theorem zc_app (a b : List Int) (t : Int) (p : Nat) : zc (a ++ b) t p = zc a t p + zc b t (p - a.length) := by
  unfold zc; rw [List.take_append, List.countP_append]
theorem zc_all {l : List Int} {t : Int} {p : Nat} (h : l.length ≤ p) : zc l t p = l.countP (fun v => decide (v ≤ t)) := by unfold zc; rw [List.take_of_length_le h]
theorem zc_seg {l : List Int} {i j : Nat} (h1 : 1 ≤ i) (h2 : i ≤ j) (h3 : j ≤ l.length) (t : Int) (p : Nat) :
    zc (seg l i j) t p = if p < i ∨ j < p then zc l t p else min (zc l t (i - 1) + (p - (i - 1))) (zc l t j) := by
  obtain ⟨A, M, B, rfl, hA, hM⟩ : ∃ A M B, l = A ++ M ++ B ∧ A.length = i - 1 ∧ M.length = j - (i - 1) := by
    refine ⟨l.take (i - 1), (l.drop (i - 1)).take (j - (i - 1)), l.drop j, ?_, by rw [List.length_take]; omega, by rw [List.length_take, List.length_drop]; omega⟩
    conv => lhs; rw [← List.take_append_drop (i - 1) l, ← List.take_append_drop (j - (i - 1)) (l.drop (i - 1)), List.drop_drop]
    rw [List.append_assoc, show i - 1 + (j - (i - 1)) = j by omega]
  have e : seg (A ++ M ++ B) i j = A ++ srt M ++ B := by
    unfold seg
    have e1 : (A ++ M ++ B).take (i - 1) = A := by rw [List.append_assoc, ← hA, List.take_left]
    have e2 : (A ++ M ++ B).drop (i - 1) = M ++ B := by rw [List.append_assoc, ← hA, List.drop_left]
    have e3 : (A ++ M ++ B).drop j = B := by rw [show j = (A ++ M).length by rw [List.length_append]; omega, List.drop_left]
    rw [e1, e2, e3, ← hM, List.take_left]
  rw [e]
  have hs : (srt M).length = M.length := srt_len M
  have cM : (srt M).countP (fun v => decide (v ≤ t)) = M.countP (fun v => decide (v ≤ t)) := (srt_perm M).countP_eq _
  simp only [zc_app, List.length_append, hs, hA, hM]
  rw [zc_all (l := A) (p := j) (by omega), zc_all (l := M) (p := j - (i - 1)) (by omega), show j - (i - 1 + (j - (i - 1))) = 0 by omega]
  rw [zc_all (l := A) (p := i - 1) (by omega), show i - 1 - (i - 1) = 0 by omega, show i - 1 - (i - 1 + (j - (i - 1))) = 0 by omega]
  have z0 : ∀ b : List Int, zc b t 0 = 0 := fun b => by simp [zc]
  rw [z0, z0, up_zc t _ _ (srt_up M), cM]
  by_cases g : p < i ∨ j < p
  · rw [if_pos g]
    rcases g with g | g
    · rw [show p - (i - 1) = 0 by omega]; rw [z0]; simp
    · rw [zc_all (l := M) (p := p - (i - 1)) (by omega)]
      have := List.countP_le_length (p := fun v => decide (v ≤ t)) (l := M)
      omega
  · rw [if_neg g, zc_all (l := A) (p := p) (by omega), show p - (i - 1 + (j - (i - 1))) = 0 by omega, z0]
    omega
/-- rows of one length with the same counts are equal -/
theorem zc_ext {l m : List Int} (hl : l.length = m.length) (h : ∀ t p, p ≤ l.length → zc l t p = zc m t p) : l = m := by
  refine List.ext_getElem hl fun k h1 h2 => ?_
  have key : ∀ t, l[k] ≤ t ↔ m[k] ≤ t := fun t => by
    have a := h t (k + 1) (by omega)
    rw [zc_succ h1, zc_succ h2, h t k (by omega)] at a
    by_cases g : l[k] ≤ t <;> by_cases g' : m[k] ≤ t <;> simp [g, g'] at a ⊢
  have := (key l[k]).mp (Int.le_refl _)
  have := (key m[k]).mpr (Int.le_refl _)
  omega
def desc (n : Nat) : List Int := (List.range n).map fun (k : Nat) => ((n : Int) - k)
theorem desc_len (n : Nat) : (desc n).length = n := by simp [desc]
theorem desc_get {n k : Nat} (h : k < (desc n).length) : (desc n)[k] = (n : Int) - k := by simp [desc]
theorem zc_desc {n : Nat} (q : Nat) (hq : q ≤ n) : ∀ p, p ≤ n → zc (desc n) ((n : Int) - q) p = p - q
  | 0, _ => by simp [zc]
  | p + 1, h => by
    have h' : p < (desc n).length := by rw [desc_len]; omega
    rw [zc_succ h', zc_desc q hq p (by omega), desc_get]
    split <;> omega
/-- what a script makes of a row, told by what it makes of the descending arrangement -/
def Told (n : Nat) (l0 l e : List Int) : Prop := l.length = n ∧ e.length = n ∧ ∀ (t : Int) (p : Nat), p ≤ n →
  (∀ q, q ≤ n → zc l t p ≤ zc l0 t q + zc e ((n : Int) - q) p) ∧ ∃ q, q ≤ n ∧ zc l t p = zc l0 t q + zc e ((n : Int) - q) p
theorem told_nil {l : List Int} : Told l.length l l (desc l.length) := ⟨rfl, desc_len _, fun t p hp => ⟨fun q hq => by
    rw [zc_desc q hq p hp]
    by_cases g : q ≤ p
    · have := (zc_mono (l := l) (t := t) (p := q) (p - q)).2
      rw [show q + (p - q) = p by omega] at this
      exact this
    · have := (zc_mono (l := l) (t := t) (p := p) (q - p)).1
      rw [show p + (q - p) = q by omega] at this
      omega, p, hp, by rw [zc_desc p hp p hp]; omega⟩⟩
theorem told_step {n : Nat} {l0 l e : List Int} {c : Cmd} (h1 : 1 ≤ c.1) (h2 : c.1 ≤ c.2) (h3 : c.2 ≤ n) (h : Told n l0 l e) : Told n l0 (step l c) (step e c) := by
  obtain ⟨hl, he, h⟩ := h
  refine ⟨(seg_len h2 (by omega)).trans hl, (seg_len h2 (by omega)).trans he, fun t p hp => ?_⟩
  have key : zc (step l c) t p = if p < c.1 ∨ c.2 < p then zc l t p else min (zc l t (c.1 - 1) + (p - (c.1 - 1))) (zc l t c.2) := zc_seg (l := l) h1 h2 (by omega) t p
  have kee : ∀ q : Nat, zc (step e c) ((n : Int) - q) p = _ := fun q => zc_seg (l := e) h1 h2 (by omega) ((n : Int) - q) p
  by_cases g : p < c.1 ∨ c.2 < p
  · have a := h t p hp
    refine ⟨fun q hq => ?_, ?_⟩
    · rw [key, kee q, if_pos g, if_pos g]; exact a.1 q hq
    · obtain ⟨q, hq, e1⟩ := a.2
      exact ⟨q, hq, by rw [key, kee q, if_pos g, if_pos g]; exact e1⟩
  · have a := h t (c.1 - 1) (by omega)
    have b := h t c.2 h3
    refine ⟨fun q hq => ?_, ?_⟩
    · rw [key, kee q, if_neg g, if_neg g]
      have := a.1 q hq; have := b.1 q hq
      omega
    · by_cases w : zc l t (c.1 - 1) + (p - (c.1 - 1)) ≤ zc l t c.2
      · obtain ⟨q, hq, e1⟩ := a.2
        refine ⟨q, hq, ?_⟩
        rw [key, kee q, if_neg g, if_neg g]
        have := b.1 q hq
        omega
      · obtain ⟨q, hq, e1⟩ := b.2
        refine ⟨q, hq, ?_⟩
        rw [key, kee q, if_neg g, if_neg g]
        have := a.1 q hq
        omega
theorem told_run {n : Nat} {l0 : List Int} : ∀ (cs : List Cmd) (l e : List Int), Fits n cs → Told n l0 l e → Told n l0 (runM l cs) (runM e cs)
  | [], _, _, _, h => h
  | c :: r, l, e, f, h => told_run r (step l c) (step e c) (fun d hd => f d (List.mem_cons_of_mem _ hd))
      (told_step (f c List.mem_cons_self).1 (f c List.mem_cons_self).2.1 (f c List.mem_cons_self).2.2 h)
theorem told_one {n : Nat} {l0 l m e : List Int} (h : Told n l0 l e) (g : Told n l0 m e) : l = m :=
  zc_ext (h.1.trans g.1.symm) fun t p hp => by
    rw [h.1] at hp
    obtain ⟨q, hq, e1⟩ := (h.2.2 t p hp).2
    obtain ⟨q', hq', e2⟩ := (g.2.2 t p hp).2
    have := (h.2.2 t p hp).1 q' hq'
    have := (g.2.2 t p hp).1 q hq
    omega
/-- scripts with one effect do the same -/
theorem same_eff {cs ds : List Cmd} {l : List Int} (hc : Fits l.length cs) (hd : Fits l.length ds) (h : runM (desc l.length) cs = runM (desc l.length) ds) : runM l cs = runM l ds := by
  have a := told_run cs l (desc l.length) hc told_nil
  have b := told_run ds l (desc l.length) hd told_nil
  rw [← h] at b
  exact told_one a b
end My
namespace My
/-! ### exchanges of neighbours -/
theorem two_at {l : List Int} {k : Nat} (h1 : 1 ≤ k) (h2 : k < l.length) : ∃ A B, l = A ++ l[k - 1] :: l[k] :: B ∧ A.length = k - 1 := by
  refine ⟨l.take (k - 1), l.drop (k + 1), ?_, by rw [List.length_take]; omega⟩
  have e1 : l.drop (k - 1) = l[k - 1] :: l.drop k := by
    rw [List.drop_eq_getElem_cons (by omega)]
    simp only [show k - 1 + 1 = k by omega]
  have e2 : l.drop k = l[k] :: l.drop (k + 1) := List.drop_eq_getElem_cons h2
  rw [← e2, ← e1, List.take_append_drop]
theorem seg_two {A B : List Int} {a b : Int} {k : Nat} (h1 : 1 ≤ k) (hA : A.length = k - 1) : seg (A ++ a :: b :: B) k (k + 1) = if b < a then A ++ b :: a :: B else A ++ a :: b :: B := by
  unfold seg
  have e1 : (A ++ a :: b :: B).take (k - 1) = A := by rw [← hA, List.take_left]
  have e2 : (A ++ a :: b :: B).drop (k - 1) = a :: b :: B := by rw [← hA, List.drop_left]
  have e3 : (A ++ a :: b :: B).drop (k + 1) = B := by
    rw [show A ++ a :: b :: B = (A ++ [a, b]) ++ B by simp, show k + 1 = (A ++ [a, b]).length by rw [List.length_append]; show _ = A.length + 2; omega, List.drop_left]
  rw [e1, e2, e3, show k + 1 - (k - 1) = 2 by omega]
  have e4 : srt [a, b] = if a ≤ b then [a, b] else [b, a] := by simp [srt, ins]
  show A ++ srt [a, b] ++ B = _
  rw [e4]
  by_cases g : a ≤ b
  · rw [if_pos g, if_neg (by omega)]; simp
  · rw [if_neg g, if_pos (by omega)]; simp
/-- two neighbours exchanged -/
def swp (l : List Int) (k : Nat) (x y : Int) : List Int := (l.set (k - 1) x).set k y
theorem swp_two {A B : List Int} {a b x y : Int} {k : Nat} (h1 : 1 ≤ k) (hA : A.length = k - 1) : swp (A ++ a :: b :: B) k x y = A ++ x :: y :: B := by
  unfold swp
  rw [List.set_append_right _ _ (by omega), show k - 1 - A.length = 0 by omega]
  rw [List.set_append_right _ _ (by omega), show k - A.length = 1 by omega]
  rfl
theorem nb_gt {l : List Int} {k : Nat} (h1 : 1 ≤ k) (h2 : k < l.length) (g : l[k] < l[k - 1]) : seg l k (k + 1) = swp l k l[k] l[k - 1] := by
  obtain ⟨A, B, e, hA⟩ := two_at h1 h2
  generalize l[k] = b at e g; generalize l[k - 1] = a at e g
  rw [e, seg_two h1 hA, if_pos g, swp_two h1 hA]
theorem nb_le {l : List Int} {k : Nat} (h1 : 1 ≤ k) (h2 : k < l.length) (g : ¬ l[k] < l[k - 1]) : seg l k (k + 1) = l := by
  obtain ⟨A, B, e, hA⟩ := two_at h1 h2
  generalize l[k] = b at e g; generalize l[k - 1] = a at e g
  rw [e, seg_two h1 hA, if_neg g]
theorem swp_len {l : List Int} {k : Nat} {x y : Int} : (swp l k x y).length = l.length := by simp [swp]
theorem nb_back {l : List Int} {k : Nat} (h1 : 1 ≤ k) (h2 : k < l.length) (g : l[k - 1] < l[k]) : seg (swp l k l[k] l[k - 1]) k (k + 1) = l := by
  obtain ⟨A, B, e, hA⟩ := two_at h1 h2
  generalize l[k] = b at e g ⊢; generalize l[k - 1] = a at e g ⊢
  rw [e, swp_two h1 hA, seg_two h1 hA, if_pos g]
theorem swp_perm {l : List Int} {k : Nat} (h1 : 1 ≤ k) (h2 : k < l.length) : (swp l k l[k] l[k - 1]).Perm l := by
  obtain ⟨A, B, e, hA⟩ := two_at h1 h2
  generalize l[k] = b at e ⊢; generalize l[k - 1] = a at e ⊢
  rw [e, swp_two h1 hA]
  exact (List.Perm.swap _ _ _).append_left _
def nbs (l : List Int) (ps : List Nat) : List Int := runM l (ps.map fun k => (k, k + 1))
def Nb (n : Nat) (ps : List Nat) : Prop := ∀ k ∈ ps, 1 ≤ k ∧ k < n
theorem Nb.fits {n : Nat} {ps : List Nat} (h : Nb n ps) : Fits n (ps.map fun k => (k, k + 1)) := fun c hc => by
  obtain ⟨k, hk, rfl⟩ := List.mem_map.mp hc
  have := h k hk
  show 1 ≤ k ∧ k ≤ k + 1 ∧ k + 1 ≤ n
  omega
theorem nbs_cons (l : List Int) (k : Nat) (ps : List Nat) : nbs l (k :: ps) = nbs (seg l k (k + 1)) ps := rfl
theorem nbs_snoc (l : List Int) (k : Nat) (ps : List Nat) : nbs l (ps ++ [k]) = seg (nbs l ps) k (k + 1) := by unfold nbs; rw [List.map_append, runM_app]; rfl
theorem nbs_len {l : List Int} {ps : List Nat} (h : Nb l.length ps) : (nbs l ps).length = l.length := runM_len h.fits
theorem nbs_perm {l : List Int} {ps : List Nat} (h : Nb l.length ps) : (nbs l ps).Perm l := runM_perm _ _ h.fits
/-- the values ahead of place e, all but the one at place pl, do not rise -/
def Ins (l : List Int) (e pl : Nat) : Prop := ∀ a b, a < b → b ≤ e → b ≠ pl → l.getD b 0 ≤ l.getD a 0
def Down (l : List Int) (e : Nat) : Prop := ∀ a b, a < b → b < e → l.getD b 0 ≤ l.getD a 0
theorem swp_get {l : List Int} {k j : Nat} {x y : Int} (h1 : 1 ≤ k) (h2 : k < l.length) : (swp l k x y).getD j 0 = if j = k then y else if j = k - 1 then x else l.getD j 0 := by
  unfold swp
  simp only [List.getD_eq_getElem?_getD, List.getElem?_set, List.length_set]
  by_cases e1 : k = j
  · subst e1; simp [h2]
  · by_cases e2 : k - 1 = j
    · rw [if_neg e1, if_pos e2, if_pos (by omega), if_neg (Ne.symm e1), if_pos e2.symm]; rfl
    · rw [if_neg e1, if_neg e2, if_neg (Ne.symm e1), if_neg (Ne.symm e2)]
theorem getD_at {l : List Int} {k : Nat} (h : k < l.length) : l[k] = l.getD k 0 := by simp [List.getD, h]
theorem ins_step {l : List Int} {e pl : Nat} (h : Ins l e pl) (h1 : 1 ≤ pl) (h2 : pl < l.length) (h3 : pl ≤ e) (g : l[pl - 1] < l[pl]) : Ins (swp l pl l[pl] l[pl - 1]) e (pl - 1) := fun a b hab hb hne => by
  rw [swp_get h1 h2, swp_get h1 h2]
  rw [getD_at h2, getD_at (show pl - 1 < l.length by omega)] at *
  by_cases e1 : b = pl
  · rw [if_pos e1, if_neg (by omega)]
    split
    · omega
    · exact h a (pl - 1) (by omega) (by omega) (by omega)
  · rw [if_neg e1, if_neg hne]
    split
    · exact h (pl - 1) b (by omega) hb e1
    · split
      · exact h pl b (by omega) hb e1
      · exact h a b hab hb e1
theorem ins_done {l : List Int} {e pl : Nat} (h : Ins l e pl) (h2 : pl < l.length) (h3 : pl ≤ e) (g : pl = 0 ∨ ∃ h0 : 1 ≤ pl, ¬ l[pl - 1] < l[pl]) : Down l (e + 1) := fun a b hab hb => by
  by_cases e1 : b = pl
  · subst e1
    rcases g with g | ⟨h0, g⟩
    · omega
    · rw [getD_at h2, getD_at (show b - 1 < l.length by omega)] at g
      by_cases e2 : a = b - 1
      · rw [e2]; omega
      · have := h a (b - 1) (by omega) (by omega) (by omega)
        omega
  · exact h a b hab (by omega) e1
theorem ins_start {l : List Int} {e : Nat} (h : Down l e) : Ins l e e := fun a b hab hb hne => h a b hab (by omega)
def ascN (n : Nat) : List Int := (List.range n).map fun (i : Nat) => (1 + i : Int)
theorem desc_rev (n : Nat) : desc n = (ascN n).reverse := by
  refine List.ext_getElem (by simp [desc, ascN]) fun k h1 h2 => ?_
  have : k < n := by simpa [desc] using h1
  simp [desc, ascN]
  omega
theorem asc_up : ∀ n, (ascN n).Pairwise (· ≤ ·)
  | 0 => List.Pairwise.nil
  | n + 1 => by
    unfold ascN
    rw [List.range_succ, List.map_append]
    refine List.pairwise_append.mpr ⟨asc_up n, List.pairwise_singleton _ _, fun a ha b hb => ?_⟩
    obtain ⟨i, hi, rfl⟩ := List.mem_map.mp ha
    rw [List.map_singleton, List.mem_singleton] at hb
    have := List.mem_range.mp hi
    omega
theorem down_desc {l : List Int} {n : Nat} (hp : l.Perm (ascN n)) (h : Down l n) : l = desc n := by
  rw [desc_rev]
  have hl : l.length = n := by rw [hp.length_eq]; simp [ascN]
  have e : l.reverse = ascN n := up_unique ((List.reverse_perm l).trans hp) (by
    rw [List.pairwise_reverse, List.pairwise_iff_getElem]
    intro i j hi hj hij
    have := h i j hij (by omega)
    rw [← getD_at hi, ← getD_at hj] at this
    exact this) (asc_up n)
  rw [← e, List.reverse_reverse]
theorem desc_perm (n : Nat) : (desc n).Perm (ascN n) := by rw [desc_rev]; exact List.reverse_perm _
/-- each exchange changes the row at its turn -/
def Liv : List Int → List Nat → Prop
  | _, [] => True
  | l, k :: r => seg l k (k + 1) ≠ l ∧ Liv (seg l k (k + 1)) r
/-- the exchange places as they are found: one value sinks in -/
def bub : Nat → List Int → List Nat → List Int × List Nat
  | 0, l, ps => (l, ps)
  | k + 1, l, ps => if l.getD k 0 < l.getD (k + 1) 0 then bub k (swp l (k + 1) (l.getD (k + 1) 0) (l.getD k 0)) (ps ++ [k + 1]) else (l, ps)
def exU (E : List Int) : Nat → List Int × List Nat
  | 0 => (E, [])
  | i + 1 => bub (1 + i) (exU E i).1 (exU E i).2
def exM (E : List Int) : List Nat := (exU E (E.length - 1)).2.reverse
theorem bub_step {l : List Int} {k : Nat} {ps : List Nat} (h1 : 1 ≤ k) (h2 : k < l.length) (g : l[k - 1] < l[k]) : bub k l ps = bub (k - 1) (swp l k l[k] l[k - 1]) (ps ++ [k]) := by
  obtain ⟨j, rfl⟩ : ∃ j, k = j + 1 := ⟨k - 1, by omega⟩
  have a : l.getD j 0 = l[j] := (getD_at (by omega)).symm
  have b : l.getD (j + 1) 0 = l[j + 1] := (getD_at h2).symm
  rw [bub, a, b]
  exact if_pos g
theorem bub_done {l : List Int} {k : Nat} {ps : List Nat} (h2 : k < l.length) (g : k = 0 ∨ ∃ h0 : 1 ≤ k, ¬ l[k - 1] < l[k]) : bub k l ps = (l, ps) := by
  cases k with
  | zero => rfl
  | succ j =>
    rcases g with g | ⟨_, g⟩
    · omega
    have a : l.getD j 0 = l[j] := (getD_at (by omega)).symm
    have b : l.getD (j + 1) 0 = l[j + 1] := (getD_at h2).symm
    rw [bub, a, b]
    exact if_neg g
/-- a row on its way from an effect back to the descending arrangement -/
def Way (E l : List Int) (ps : List Nat) : Prop := l.Perm E ∧ Nb E.length ps ∧ nbs l ps.reverse = E ∧ Liv l ps.reverse
theorem way_nil (E : List Int) : Way E E [] := ⟨List.Perm.refl _, ⟨fun k hk => (by cases hk), rfl, trivial⟩⟩
theorem way_step {E l : List Int} {ps : List Nat} {k : Nat} (h : Way E l ps) (h1 : 1 ≤ k) (h2 : k < l.length) (g : l[k - 1] < l[k]) : Way E (swp l k l[k] l[k - 1]) (ps ++ [k]) := by
  refine ⟨(swp_perm h1 h2).trans h.1, fun j hj => ?_, ?_, ?_⟩
  · rcases List.mem_append.mp hj with z | z
    · exact h.2.1 j z
    · rw [List.mem_singleton.mp z, ← h.1.length_eq]; exact ⟨h1, h2⟩
  · rw [List.reverse_append]
    show nbs (seg (swp l k l[k] l[k - 1]) k (k + 1)) ps.reverse = E
    rw [nb_back h1 h2 g]
    exact h.2.2.1
  · rw [List.reverse_append]
    show seg (swp l k l[k] l[k - 1]) k (k + 1) ≠ swp l k l[k] l[k - 1] ∧ Liv (seg (swp l k l[k] l[k - 1]) k (k + 1)) ps.reverse
    rw [nb_back h1 h2 g]
    refine ⟨fun e => ?_, h.2.2.2⟩
    have e1 := swp_get (l := l) (k := k) (j := k) (x := l[k]) (y := l[k - 1]) h1 h2
    rw [← e, if_pos rfl, ← getD_at h2] at e1
    omega
/-- what stands for any script with an effect -/
def Stand (E : List Int) (ps : List Nat) : Prop := Nb E.length ps ∧ nbs (desc E.length) ps = E
theorem way_end {E l : List Int} {ps : List Nat} {n : Nat} (h : Way E l ps) (hE : E.Perm (ascN n)) (hd : Down l n) : Stand E ps.reverse := by
  have hn : E.length = n := by rw [hE.length_eq]; simp [ascN]
  refine ⟨fun k hk => h.2.1 k (List.mem_reverse.mp hk), ?_⟩
  rw [hn, ← down_desc (h.1.trans hE) hd]
  exact h.2.2.1
theorem way_liv {E l : List Int} {ps : List Nat} {n : Nat} (h : Way E l ps) (hE : E.Perm (ascN n)) (hd : Down l n) : Liv (desc n) ps.reverse := by
  rw [← down_desc (h.1.trans hE) hd]
  exact h.2.2.2
theorem stand_run {E l : List Int} {ps : List Nat} {cs : List Cmd} (h : Stand E ps) (hl : l.length = E.length) (hc : Fits E.length cs) (he : runM (desc E.length) cs = E) : nbs l ps = runM l cs := by
  refine same_eff (hl ▸ h.1.fits) (hl ▸ hc) ?_
  rw [hl, he]
  exact h.2
end My
namespace My
theorem seg_split {l : List Int} {i j : Nat} (h1 : i ≤ j) (h2 : j ≤ l.length) : ∃ A M B, l = A ++ M ++ B ∧ A.length = i - 1 ∧ M.length = j - (i - 1) ∧ seg l i j = A ++ srt M ++ B := by
  refine ⟨l.take (i - 1), (l.drop (i - 1)).take (j - (i - 1)), l.drop j, ?_, by rw [List.length_take]; omega, by rw [List.length_take, List.length_drop]; omega, rfl⟩
  conv => lhs; rw [← List.take_append_drop (i - 1) l, ← List.take_append_drop (j - (i - 1)) (l.drop (i - 1)), List.drop_drop]
  rw [List.append_assoc, show i - 1 + (j - (i - 1)) = j by omega]
theorem srt_id {l : List Int} (h : l.Pairwise (· ≤ ·)) : srt l = l := (srt_is (List.Perm.refl l) h).symm
theorem seg_app {A M B : List Int} {i j : Nat} (hA : A.length = i - 1) (hM : M.length = j - (i - 1)) (h : i ≤ j) : seg (A ++ M ++ B) i j = A ++ srt M ++ B := by
  unfold seg
  have e1 : (A ++ M ++ B).take (i - 1) = A := by rw [List.append_assoc, ← hA, List.take_left]
  have e2 : (A ++ M ++ B).drop (i - 1) = M ++ B := by rw [List.append_assoc, ← hA, List.drop_left]
  have e3 : (A ++ M ++ B).drop j = B := by rw [show j = (A ++ M).length by rw [List.length_append]; omega, List.drop_left]
  rw [e1, e2, e3, ← hM, List.take_left]
theorem step_twice {l : List Int} {c : Cmd} (h1 : c.1 ≤ c.2) (h2 : c.2 ≤ l.length) : step (step l c) c = step l c := by
  unfold step
  obtain ⟨A, M, B, _, hA, hM, e⟩ := seg_split h1 h2
  rw [e, seg_app hA (by rw [srt_len]; exact hM) h1, srt_id (srt_up M)]
end My
namespace My
def less (x : Int) (l : List Int) : Nat := (l.filter (fun y => decide (y < x))).length
def inv : List Int → Nat
  | [] => 0
  | x :: r => less x r + inv r
theorem less_perm {x : Int} {l m : List Int} (h : l.Perm m) : less x l = less x m := (h.filter _).length_eq
theorem less_cons (x y : Int) (r : List Int) : less x (y :: r) = (if y < x then 1 else 0) + less x r := by
  unfold less
  rw [List.filter_cons]
  by_cases h : y < x <;> simp [h]; omega
theorem inv_sorted : ∀ (s : List Int), s.Pairwise (· ≤ ·) → inv s = 0
  | [], _ => rfl
  | x :: r, h => by
    have h1 := List.pairwise_cons.mp h
    show less x r + inv r = 0
    rw [inv_sorted r h1.2]
    have : less x r = 0 := by
      unfold less
      rw [List.length_eq_zero_iff, List.filter_eq_nil_iff]
      intro y hy
      have := h1.1 y hy
      simp; omega
    omega
def invU (ns : List Int) : Nat → Nat
  | 0 => 0
  | i + 1 => invU ns i + less (ns.getD i 0) (ns.drop (i + 1))
theorem invU_cons (x : Int) (r : List Int) : ∀ i, invU (x :: r) (i + 1) = less x r + invU r i
  | 0 => by simp [invU]
  | i + 1 => by
    rw [invU, invU_cons x r i, invU]
    simp
    omega
theorem invU_all : ∀ ns : List Int, invU ns ns.length = inv ns
  | [] => rfl
  | x :: r => by rw [List.length_cons, invU_cons, invU_all r]; rfl
theorem less_le (x : Int) (l : List Int) : less x l ≤ l.length := List.length_filter_le _ _
theorem inv_le : ∀ ns : List Int, inv ns ≤ ns.length * ns.length
  | [] => Nat.le_refl _
  | x :: r => by
    have h1 := less_le x r
    have ih := inv_le r
    show less x r + inv r ≤ (r.length + 1) * (r.length + 1)
    rw [Nat.add_mul, Nat.mul_add, Nat.one_mul, Nat.mul_one]
    omega
def gt (x : Int) (l : List Int) : Nat := (l.filter (fun y => decide (x < y))).length
theorem inv_snoc (x : Int) : ∀ l : List Int, inv (l ++ [x]) = inv l + gt x l
  | [] => rfl
  | y :: r => by
    show less y (r ++ [x]) + inv (r ++ [x]) = less y r + inv r + gt x (y :: r)
    rw [inv_snoc x r]
    have e1 : less y (r ++ [x]) = less y r + if x < y then 1 else 0 := by
      unfold less
      rw [List.filter_append, List.length_append]
      by_cases h : x < y <;> simp [h]
    have e2 : gt x (y :: r) = (if x < y then 1 else 0) + gt x r := by
      unfold gt
      rw [List.filter_cons]
      by_cases h : x < y <;> simp [h]; omega
    omega
def gts (l : List Int) : Nat → List Int
  | 0 => []
  | i + 1 => gts l i ++ [((gt (l.getD i 0) (l.take i) : Nat) : Int)]
theorem gts_len (l : List Int) : ∀ i, (gts l i).length = i
  | 0 => rfl
  | i + 1 => by rw [gts, List.length_append, gts_len l i]; rfl
theorem gts_sum (l : List Int) : ∀ i, i ≤ l.length → (gts l i).sum = ((inv (l.take i) : Nat) : Int)
  | 0, _ => by simp [gts, inv]
  | i + 1, h => by
    have hi : i < l.length := h
    rw [gts, List.sum_append, gts_sum l i (by omega), List.take_add_one, List.getElem?_eq_getElem hi]
    show _ = ((inv (l.take i ++ [l[i]]) : Nat) : Int)
    rw [inv_snoc, show l.getD i 0 = l[i] by simp [List.getD, hi]]
    simp
theorem gt_less {x : Int} : ∀ {l : List Int}, x ∉ l → gt x l + less x l = l.length
  | [], _ => rfl
  | y :: r, h => by
    have h1 := gt_less (x := x) (l := r) (fun q => h (List.mem_cons_of_mem _ q))
    have h2 : x ≠ y := fun q => h (q ▸ List.mem_cons_self)
    rw [less_cons, List.length_cons]
    have e2 : gt x (y :: r) = (if x < y then 1 else 0) + gt x r := by
      unfold gt
      rw [List.filter_cons]
      by_cases h : x < y <;> simp [h]; omega
    rw [e2]
    by_cases h3 : x < y
    · rw [if_pos h3, if_neg (by omega)]; omega
    · rw [if_neg h3, if_pos (by omega)]; omega
theorem gt_perm {x : Int} {l m : List Int} (h : l.Perm m) : gt x l = gt x m := (h.filter _).length_eq
theorem inv_rev : ∀ l : List Int, l.Nodup → 2 * (inv l.reverse + inv l) + l.length = l.length * l.length
  | [], _ => rfl
  | x :: r, h => by
    have h1 := List.nodup_cons.mp h
    have ih := inv_rev r h1.2
    have g := gt_less h1.1
    rw [List.reverse_cons, inv_snoc, gt_perm (List.reverse_perm r), List.length_cons]
    show 2 * (inv r.reverse + gt x r + (less x r + inv r)) + (r.length + 1) = (r.length + 1) * (r.length + 1)
    have e : (r.length + 1) * (r.length + 1) = r.length * r.length + r.length + r.length + 1 := by rw [Nat.succ_mul, Nat.mul_succ]; omega
    rw [e]
    omega
end My
namespace My
def crs (a b : List Int) : Nat := (a.map fun x => less x b).sum
theorem less_app (x : Int) (a b : List Int) : less x (a ++ b) = less x a + less x b := by unfold less; rw [List.filter_append, List.length_append]
theorem inv_app : ∀ (a b : List Int), inv (a ++ b) = inv a + inv b + crs a b
  | [], b => by simp [inv, crs]
  | x :: r, b => by
    show less x (r ++ b) + inv (r ++ b) = less x r + inv r + inv b + ((less x b) + crs r b)
    rw [less_app, inv_app r b]; omega
theorem crs_right {a b c : List Int} (h : b.Perm c) : crs a b = crs a c := by
  unfold crs
  rw [show (fun x => less x b) = fun x => less x c from funext fun x => less_perm h]
theorem crs_left {a b c : List Int} (h : a.Perm b) : crs a c = crs b c := (h.map _).sum_nat
theorem inv_zero : ∀ {l : List Int}, inv l = 0 → l.Pairwise (· ≤ ·)
  | [], _ => List.Pairwise.nil
  | x :: r, h => by
    have h' : less x r + inv r = 0 := h
    refine List.pairwise_cons.mpr ⟨fun y hy => ?_, inv_zero (by omega)⟩
    have h0 : less x r = 0 := by omega
    unfold less at h0
    rw [List.length_eq_zero_iff, List.filter_eq_nil_iff] at h0
    have := h0 y hy
    simp at this; omega
theorem inv_mid (A M B : List Int) : inv (A ++ srt M ++ B) + inv M = inv (A ++ M ++ B) := by
  have p := srt_perm M
  rw [inv_app, inv_app, inv_app (A ++ M), inv_app A M, crs_right p, crs_left (p.append_left A), inv_sorted _ (srt_up M)]
  omega
theorem step_inv {l : List Int} {c : Cmd} (h1 : c.1 ≤ c.2) (h2 : c.2 ≤ l.length) : inv (step l c) ≤ inv l ∧ (inv (step l c) = inv l → step l c = l) := by
  obtain ⟨A, M, B, e, _, _, e2⟩ := seg_split h1 h2
  unfold step
  rw [e2]
  have k := inv_mid A M B
  rw [← e] at k
  refine ⟨by omega, fun q => ?_⟩
  have z : inv M = 0 := by omega
  rw [srt_id (inv_zero z), ← e]
theorem run_inv : ∀ (cs : List Cmd) (l : List Int), Fits l.length cs → inv (runM l cs) ≤ inv l ∧ (inv (runM l cs) = inv l → runM l cs = l)
  | [], _, _ => ⟨Nat.le_refl _, fun _ => rfl⟩
  | c :: r, l, h => by
    have hc := h c List.mem_cons_self
    have a := step_inv (l := l) hc.2.1 hc.2.2
    have hl : (step l c).length = l.length := seg_len hc.2.1 hc.2.2
    have b := run_inv r (step l c) (by rw [hl]; exact fun d hd => h d (List.mem_cons_of_mem _ hd))
    show inv (runM (step l c) r) ≤ inv l ∧ (inv (runM (step l c) r) = inv l → runM (step l c) r = l)
    refine ⟨by omega, fun q => ?_⟩
    have e1 := a.2 (by omega)
    rw [e1] at b q ⊢
    exact b.2 (by omega)
end My
namespace My
theorem liv_at : ∀ (ps : List Nat) (l : List Int) (i : Nat), Liv l ps → i < ps.length → runM l ((ps.map fun k => (k, k + 1)).take (i + 1)) ≠ runM l ((ps.map fun k => (k, k + 1)).take i)
  | k :: r, l, 0, h, _ => h.1
  | k :: r, l, i + 1, h, hi => liv_at r (seg l k (k + 1)) i h.2 (by simpa using hi)
theorem less_two (x y : Int) : inv [x, y] ≤ 1 := by
  show less x [y] + (less y [] + 0) ≤ 1
  have a := less_le x [y]
  have b := less_le y []
  simp at a b
  omega
theorem swap_inv {l : List Int} {k : Nat} (h1 : 1 ≤ k) (h2 : k < l.length) (h : seg l k (k + 1) ≠ l) : inv (seg l k (k + 1)) + 1 = inv l := by
  obtain ⟨A, M, B, e, hA, hM, e2⟩ := seg_split (l := l) (i := k) (j := k + 1) (by omega) (by omega)
  have kk := inv_mid A M B
  rw [← e, ← e2] at kk
  have z : inv M ≠ 0 := fun z => h (by rw [e2, srt_id (inv_zero z), ← e])
  have o : inv M ≤ 1 := by
    match M, hM with
    | [x, y], _ => exact less_two x y
    | [], hM => simp at hM; omega
    | [x], hM => simp at hM; omega
    | x :: y :: w :: r, hM => simp at hM; omega
  omega
theorem liv_inv : ∀ (ps : List Nat) (l : List Int), Nb l.length ps → Liv l ps → inv (nbs l ps) + ps.length = inv l
  | [], l, _, _ => rfl
  | k :: r, l, hn, h => by
    have hk := hn k List.mem_cons_self
    have a := swap_inv hk.1 hk.2 h.1
    have hl : (seg l k (k + 1)).length = l.length := seg_len (by omega) (by omega)
    have b := liv_inv r (seg l k (k + 1)) (by rw [hl]; exact fun j hj => hn j (List.mem_cons_of_mem _ hj)) h.2
    show inv (nbs (seg l k (k + 1)) r) + (r.length + 1) = inv l
    omega
theorem asc_nodup (n : Nat) : (ascN n).Nodup := by
  have : (desc n).Nodup := by
    unfold desc
    exact List.Pairwise.map _ (fun (a b : Nat) (h : a ≠ b) => show ((n : Int) - (a : Nat)) ≠ ((n : Int) - (b : Nat)) by omega) List.nodup_range
  exact (desc_perm n).nodup_iff.mp this
theorem desc_inv (n : Nat) : 2 * inv (desc n) + n = n * n := by
  have a := inv_rev (ascN n) (asc_nodup n)
  rw [← desc_rev, inv_sorted _ (asc_up n)] at a
  simpa [ascN] using a
/-- the pairs in ascending order -/
def asc : List Int → Nat
  | [] => 0
  | x :: r => gt x r + asc r
/-- the pairs whose earlier place is one of the first so many -/
def ascU (ns : List Int) : Nat → Nat
  | 0 => 0
  | i + 1 => ascU ns i + gt (ns.getD i 0) (ns.drop (i + 1))
theorem ascU_cons (x : Int) (r : List Int) : ∀ i, ascU (x :: r) (i + 1) = gt x r + ascU r i
  | 0 => by unfold ascU; simp [ascU]
  | i + 1 => by
    have := ascU_cons x r i
    show ascU (x :: r) (i + 1) + _ = gt x r + (ascU r i + _)
    rw [this]
    simp [Nat.add_assoc]
theorem ascU_all : ∀ ns : List Int, ascU ns ns.length = asc ns
  | [] => rfl
  | x :: r => by
    show ascU (x :: r) (r.length + 1) = _
    rw [ascU_cons, ascU_all r]; rfl
theorem asc_inv : ∀ l : List Int, l.Nodup → 2 * (asc l + inv l) + l.length = l.length * l.length
  | [], _ => rfl
  | x :: r, h => by
    have h' := List.nodup_cons.mp h
    have a := asc_inv r h'.2
    have b := gt_less h'.1
    show 2 * ((gt x r + asc r) + (less x r + inv r)) + (r.length + 1) = (r.length + 1) * (r.length + 1)
    have e : (r.length + 1) * (r.length + 1) = r.length * r.length + 2 * r.length + 1 := by rw [Nat.mul_add, Nat.add_mul]; omega
    omega
/-- as many as an exchange is needed for -/
theorem asc_count {E : List Int} {n : Nat} {ps : List Nat} (hE : E.Perm (ascN n)) (h : Stand E ps) (hl : Liv (desc n) ps) : ps.length = asc E ∧ 2 * (inv E + ps.length) + n = n * n := by
  have hn : E.length = n := by rw [hE.length_eq]; simp [ascN]
  have a := liv_inv ps (desc n) (by rw [desc_len, ← hn]; exact h.1) hl
  have b := desc_inv n
  have c := asc_inv E (hE.nodup_iff.mpr (asc_nodup n))
  have e := h.2
  rw [hn] at e c
  rw [e] at a
  constructor <;> omega
end My
namespace My
/-- the values at the places of a command, falling -/
def dstep (l : List Int) (c : Cmd) : List Int := l.take (c.1 - 1) ++ (srt ((l.drop (c.1 - 1)).take (c.2 - (c.1 - 1)))).reverse ++ l.drop c.2
theorem dstep_perm {l : List Int} {c : Cmd} (h1 : c.1 ≤ c.2) (h2 : c.2 ≤ l.length) : (dstep l c).Perm l := by
  unfold dstep
  have e : l = l.take (c.1 - 1) ++ (l.drop (c.1 - 1)).take (c.2 - (c.1 - 1)) ++ l.drop c.2 := by
    conv => lhs; rw [← List.take_append_drop (c.1 - 1) l, ← List.take_append_drop (c.2 - (c.1 - 1)) (l.drop (c.1 - 1)), List.drop_drop]
    rw [List.append_assoc, show c.1 - 1 + (c.2 - (c.1 - 1)) = c.2 by omega]
  conv => rhs; rw [e]
  exact (((List.reverse_perm _).trans (srt_perm _)).append_left _).append_right _
def backR (rs : List Cmd) (l : List Int) : List Int := rs.foldl dstep l
def backM (cs : List Cmd) (l : List Int) : List Int := backR cs.reverse l
theorem backR_perm : ∀ (rs : List Cmd) (l : List Int), Fits l.length rs → (backR rs l).Perm l
  | [], l, _ => List.Perm.refl l
  | c :: r, l, h => by
    have hc := h c List.mem_cons_self
    have p := dstep_perm hc.2.1 hc.2.2
    refine List.Perm.trans (backR_perm r (dstep l c) ?_) p
    rw [p.length_eq]
    exact fun d hd => h d (List.mem_cons_of_mem _ hd)
theorem Fits.rev {n : Nat} {cs : List Cmd} (h : Fits n cs) : Fits n cs.reverse := fun c hc => h c (List.mem_reverse.mp hc)
theorem backM_perm {cs : List Cmd} {l : List Int} (h : Fits l.length cs) : (backM cs l).Perm l := backR_perm _ _ h.rev
theorem backR_snoc (l : List Int) (cs : List Cmd) (c : Cmd) : backR (cs ++ [c]) l = dstep (backR cs l) c := by unfold backR; rw [List.foldl_append]; rfl
theorem down_is {l m : List Int} (h : m.Perm l) (u : m.Pairwise (· ≥ ·)) : m = (srt l).reverse := by
  have := srt_is (l := l) (m := m.reverse) ((List.reverse_perm m).trans h) (List.pairwise_reverse.mpr u)
  rw [← this, List.reverse_reverse]
theorem srt_eq {l m : List Int} (h : l.Perm m) : srt l = srt m := srt_is ((srt_perm l).trans h) (srt_up l)
theorem srt_run {l : List Int} {cs : List Cmd} (h : Fits l.length cs) : srt (runM l cs) = srt l := srt_eq (runM_perm cs l h)
/-- the value behind the first descent -/
def witM : List Int → Option Int
  | [] => none
  | [_] => none
  | x :: y :: r => if y < x then some y else witM (y :: r)
theorem wit_none : ∀ {l : List Int}, witM l = none → l.Pairwise (· ≤ ·)
  | [], _ => List.Pairwise.nil
  | [x], _ => List.pairwise_singleton _ _
  | x :: y :: r, h => by
    unfold witM at h
    split at h
    · cases h
    · rename_i g
      have ih := wit_none h
      refine List.pairwise_cons.mpr ⟨fun z hz => ?_, ih⟩
      rcases List.mem_cons.mp hz with e | e
      · rw [e]; omega
      · have := (List.pairwise_cons.mp ih).1 z e; omega
theorem wit_some : ∀ {l : List Int} {v : Int}, witM l = some v → ¬ (l.map fun x => if v < x then (1 : Int) else 0).Pairwise (· ≤ ·)
  | x :: y :: r, v, h => by
    unfold witM at h
    intro hp
    rw [List.map_cons] at hp
    have hp1 := List.pairwise_cons.mp hp
    split at h
    · rename_i g
      cases h
      have := hp1.1 _ (List.mem_map.mpr ⟨y, List.mem_cons_self, rfl⟩)
      rw [if_pos g, if_neg (by omega)] at this
      omega
    · exact wit_some h hp1.2
theorem wit_up {l : List Int} (h : l.Pairwise (· ≤ ·)) : witM l = none := by
  cases e : witM l with
  | none => rfl
  | some v =>
    refine absurd ?_ (wit_some e)
    rw [List.pairwise_map]
    exact h.imp fun {a b} hab => by split <;> split <;> omega
theorem wit_sorted {l : List Int} : witM l = none ↔ l = srt l := ⟨fun h => srt_is (List.Perm.refl _) (wit_none h), fun h => wit_up (h ▸ srt_up l)⟩
/-- sorting heeds the order alone -/
theorem srt_map {f : Int → Int} (hf : ∀ a b, a ≤ b → f a ≤ f b) (l : List Int) : srt (l.map f) = (srt l).map f :=
  (srt_is ((srt_perm l).map f) (List.pairwise_map.mpr ((srt_up l).imp fun {a b} h => hf a b h))).symm
theorem step_map {f : Int → Int} (hf : ∀ a b, a ≤ b → f a ≤ f b) (l : List Int) (c : Cmd) : step (l.map f) c = (step l c).map f := by
  unfold step seg
  rw [List.map_append, List.map_append, ← List.map_drop, ← List.map_take, ← List.map_take, ← List.map_drop, srt_map hf]
theorem run_map {f : Int → Int} (hf : ∀ a b, a ≤ b → f a ≤ f b) : ∀ (cs : List Cmd) (l : List Int), runM (l.map f) cs = (runM l cs).map f
  | [], _ => rfl
  | c :: r, l => by
    show runM (step (l.map f) c) r = (runM (step l c) r).map f
    rw [step_map hf, run_map hf r]
theorem bit_mono (v : Int) : ∀ a b : Int, a ≤ b → (if v < a then (1 : Int) else 0) ≤ if v < b then 1 else 0 := fun a b h => by split <;> split <;> omega
end My
namespace My
theorem most_zc {a b : List Int} : AtMost a b ↔ ∀ p q : Nat, zc b q p ≤ zc a q p := by
  unfold AtMost cnt zc
  simp only [List.countP_eq_length_filter]
theorem zc_low {l : List Int} {t : Int} (h : ∀ v ∈ l, 1 ≤ v) (ht : t < 1) (p : Nat) : zc l t p = 0 := List.countP_eq_zero.mpr fun v hv => by
  have := h v (List.mem_of_mem_take hv)
  simp; omega
theorem zc_rev {s : List Int} (t : Int) (h : s.Pairwise (· ≤ ·)) {k : Nat} (hk : k ≤ s.length) : zc s.reverse t k = s.countP (fun v => decide (v ≤ t)) - (s.length - k) := by
  have e : zc s.reverse t k = (s.drop (s.length - k)).countP (fun v => decide (v ≤ t)) := by
    unfold zc
    rw [List.take_reverse, List.countP_reverse]
  have e2 : (s.take (s.length - k)).countP (fun v => decide (v ≤ t)) + (s.drop (s.length - k)).countP (fun v => decide (v ≤ t)) = s.countP (fun v => decide (v ≤ t)) := by
    rw [← List.countP_append, List.take_append_drop]
  have e3 := up_zc t s (s.length - k) h
  unfold zc at e3
  have e4 : (s.drop (s.length - k)).countP (fun v => decide (v ≤ t)) ≤ k := Nat.le_trans List.countP_le_length (by rw [List.length_drop]; omega)
  rw [e]
  omega
theorem zc_dseg {l : List Int} {c : Cmd} (h1 : 1 ≤ c.1) (h2 : c.1 ≤ c.2) (h3 : c.2 ≤ l.length) (t : Int) (p : Nat) :
    zc (dstep l c) t p = if p < c.1 ∨ c.2 < p then zc l t p else max (zc l t (c.1 - 1)) (zc l t c.2 - (c.2 - p)) := by
  obtain ⟨i, j⟩ := c
  simp only at h1 h2 h3 ⊢
  obtain ⟨A, M, B, rfl, hA, hM⟩ : ∃ A M B, l = A ++ M ++ B ∧ A.length = i - 1 ∧ M.length = j - (i - 1) := by
    refine ⟨l.take (i - 1), (l.drop (i - 1)).take (j - (i - 1)), l.drop j, ?_, by rw [List.length_take]; omega, by rw [List.length_take, List.length_drop]; omega⟩
    conv => lhs; rw [← List.take_append_drop (i - 1) l, ← List.take_append_drop (j - (i - 1)) (l.drop (i - 1)), List.drop_drop]
    rw [List.append_assoc, show i - 1 + (j - (i - 1)) = j by omega]
  have e : dstep (A ++ M ++ B) (i, j) = A ++ (srt M).reverse ++ B := by
    unfold dstep
    simp only
    have e1 : (A ++ M ++ B).take (i - 1) = A := by rw [List.append_assoc, ← hA, List.take_left]
    have e2 : (A ++ M ++ B).drop (i - 1) = M ++ B := by rw [List.append_assoc, ← hA, List.drop_left]
    have e3 : (A ++ M ++ B).drop j = B := by rw [show j = (A ++ M).length by rw [List.length_append]; omega, List.drop_left]
    rw [e1, e2, e3, ← hM, List.take_left]
  rw [e]
  have hs : (srt M).length = M.length := srt_len M
  have cM : (srt M).countP (fun v => decide (v ≤ t)) = M.countP (fun v => decide (v ≤ t)) := (srt_perm M).countP_eq _
  simp only [zc_app, List.length_append, List.length_reverse, hs, hA, hM]
  rw [zc_all (l := A) (p := j) (by omega), zc_all (l := M) (p := j - (i - 1)) (by omega), show j - (i - 1 + (j - (i - 1))) = 0 by omega]
  rw [zc_all (l := A) (p := i - 1) (by omega), show i - 1 - (i - 1) = 0 by omega, show i - 1 - (i - 1 + (j - (i - 1))) = 0 by omega]
  have z0 : ∀ b : List Int, zc b t 0 = 0 := fun b => by simp [zc]
  rw [z0, z0]
  have hle := List.countP_le_length (p := fun v => decide (v ≤ t)) (l := M)
  by_cases g : p < i ∨ j < p
  · rw [if_pos g]
    rcases g with g | g
    · rw [show p - (i - 1) = 0 by omega]; rw [z0, z0]
    · rw [zc_all (l := M) (p := p - (i - 1)) (by omega), zc_all (l := (srt M).reverse) (p := p - (i - 1)) (by rw [List.length_reverse]; omega), List.countP_reverse, cM]
  · rw [if_neg g, zc_all (l := A) (p := p) (by omega), show p - (i - 1 + (j - (i - 1))) = 0 by omega, z0, zc_rev t (srt_up M) (by omega), cM, hs]
    omega
theorem most_refl (a : List Int) : AtMost a a := fun p q => Nat.le_refl _
theorem most_trans {a b c : List Int} (h : AtMost a b) (g : AtMost b c) : AtMost a c := fun p q => Nat.le_trans (g p q) (h p q)
theorem step_mono {l m : List Int} {c : Cmd} (h1 : 1 ≤ c.1) (h2 : c.1 ≤ c.2) (h3 : c.2 ≤ l.length) (h4 : c.2 ≤ m.length) (h : AtMost l m) : AtMost (step l c) (step m c) := by
  rw [most_zc] at h ⊢
  intro p q
  have e1 : zc (step l c) q p = _ := zc_seg (l := l) h1 h2 h3 q p
  have e2 : zc (step m c) q p = _ := zc_seg (l := m) h1 h2 h4 q p
  rw [e1, e2]
  have a1 := h p q
  have a2 := h (c.1 - 1) q
  have a3 := h c.2 q
  split <;> omega
theorem step_le {l : List Int} {c : Cmd} (h1 : 1 ≤ c.1) (h2 : c.1 ≤ c.2) (h3 : c.2 ≤ l.length) : AtMost (step l c) l := by
  rw [most_zc]
  intro p q
  have e1 : zc (step l c) q p = _ := zc_seg (l := l) h1 h2 h3 q p
  rw [e1]
  split
  · exact Nat.le_refl _
  · rename_i g
    have m1 := zc_mono (l := l) (t := q) (p := c.1 - 1) (p - (c.1 - 1))
    have m2 := zc_mono (l := l) (t := q) (p := p) (c.2 - p)
    rw [show c.1 - 1 + (p - (c.1 - 1)) = p by omega] at m1
    rw [show p + (c.2 - p) = c.2 by omega] at m2
    omega
theorem gal_step {l m : List Int} {c : Cmd} (h1 : 1 ≤ c.1) (h2 : c.1 ≤ c.2) (h3 : c.2 ≤ l.length) (h4 : c.2 ≤ m.length) : AtMost (step l c) m ↔ AtMost l (dstep m c) := by
  rw [most_zc, most_zc]
  have e1 : ∀ (q p : Nat), zc (step l c) q p = _ := fun q p => zc_seg (l := l) h1 h2 h3 q p
  have e2 : ∀ (q p : Nat), zc (dstep m c) q p = _ := fun q p => zc_dseg (l := m) h1 h2 h4 q p
  constructor
  · intro h p q
    rw [e2]
    have a0 := h p q
    have a1 := h (c.1 - 1) q
    have a2 := h c.2 q
    rw [e1] at a0 a1 a2
    rw [if_pos (by omega)] at a1
    rw [if_neg (by omega)] at a2
    split
    · rename_i g
      rw [if_pos g] at a0
      exact a0
    · rename_i g
      have m1 := zc_mono (l := l) (t := q) (p := c.1 - 1) (p - (c.1 - 1))
      have m2 := zc_mono (l := l) (t := q) (p := p) (c.2 - p)
      rw [show c.1 - 1 + (p - (c.1 - 1)) = p by omega] at m1
      rw [show p + (c.2 - p) = c.2 by omega] at m2
      omega
  · intro h p q
    rw [e1]
    have a0 := h p q
    have a1 := h (c.1 - 1) q
    have a2 := h c.2 q
    rw [e2] at a0 a1 a2
    rw [if_pos (by omega)] at a1
    rw [if_neg (by omega)] at a2
    split
    · rename_i g
      rw [if_pos g] at a0
      exact a0
    · rename_i g
      have m1 := zc_mono (l := m) (t := q) (p := c.1 - 1) (p - (c.1 - 1))
      have m2 := zc_mono (l := m) (t := q) (p := p) (c.2 - p)
      rw [show c.1 - 1 + (p - (c.1 - 1)) = p by omega] at m1
      rw [show p + (c.2 - p) = c.2 by omega] at m2
      omega
theorem back_cons (c : Cmd) (r : List Cmd) (m : List Int) : backM (c :: r) m = dstep (backM r m) c := by
  unfold backM
  rw [List.reverse_cons, backR_snoc]
theorem back_app (a b : List Cmd) (m : List Int) : backM (a ++ b) m = backM a (backM b m) := by
  unfold backM backR
  rw [List.reverse_append, List.foldl_append]
theorem gal_run : ∀ (cs : List Cmd) {l m : List Int}, l.length = m.length → Fits m.length cs → (AtMost (runM l cs) m ↔ AtMost l (backM cs m))
  | [], _, _, _, _ => Iff.rfl
  | c :: r, l, m, hl, h => by
    have hc := h c List.mem_cons_self
    have hr : Fits m.length r := fun d hd => h d (List.mem_cons_of_mem _ hd)
    have hb : (backM r m).length = m.length := (backM_perm hr).length_eq
    have hs : (step l c).length = l.length := seg_len hc.2.1 (by omega)
    show AtMost (runM (step l c) r) m ↔ _
    rw [gal_run r (by rw [hs, hl]) hr, back_cons, gal_step hc.1 hc.2.1 (by omega) (by omega)]
theorem run_mono : ∀ (cs : List Cmd) {l m : List Int}, l.length = m.length → Fits m.length cs → AtMost l m → AtMost (runM l cs) (runM m cs)
  | [], _, _, _, _, h => h
  | c :: r, l, m, hl, hf, h => by
    have hc := hf c List.mem_cons_self
    have hs : (step l c).length = l.length := seg_len hc.2.1 (by omega)
    have hs2 : (step m c).length = m.length := seg_len hc.2.1 hc.2.2
    exact run_mono r (by rw [hs, hs2, hl]) (by rw [hs2]; exact fun d hd => hf d (List.mem_cons_of_mem _ hd)) (step_mono hc.1 hc.2.1 (by omega) (by omega) h)
theorem run_le : ∀ (cs : List Cmd) {l : List Int}, Fits l.length cs → AtMost (runM l cs) l
  | [], l, _ => most_refl l
  | c :: r, l, hf => by
    have hc := hf c List.mem_cons_self
    have hs : (step l c).length = l.length := seg_len hc.2.1 hc.2.2
    exact most_trans (run_le r (by rw [hs]; exact fun d hd => hf d (List.mem_cons_of_mem _ hd))) (step_le hc.1 hc.2.1 hc.2.2)
theorem perm_pos {l : List Int} {n : Nat} (h : l.Perm (ascN n)) : ∀ v ∈ l, 1 ≤ v := fun v hv => by
  obtain ⟨k, _, rfl⟩ := List.mem_map.mp (h.mem_iff.mp hv)
  omega
theorem most_anti {a b : List Int} {n : Nat} (ha : a.Perm (ascN n)) (hb : b.Perm (ascN n)) (h : AtMost a b) (g : AtMost b a) : a = b := by
  rw [most_zc] at h g
  refine zc_ext (ha.length_eq.trans hb.length_eq.symm) fun t p _ => ?_
  by_cases ht : t < 1
  · rw [zc_low (perm_pos ha) ht, zc_low (perm_pos hb) ht]
  · obtain ⟨q, rfl⟩ := Int.eq_ofNat_of_zero_le (show 0 ≤ t by omega)
    exact Nat.le_antisymm (g p q) (h p q)
theorem asc_least {m : List Int} {n : Nat} (h : m.Perm (ascN n)) : AtMost (ascN n) m := by
  rw [most_zc]
  intro p q
  rw [up_zc (q : Int) (ascN n) p (asc_up n), ← h.countP_eq]
  refine Nat.le_min.mpr ⟨zc_le m q p, ?_⟩
  exact (List.take_sublist p m).countP_le
theorem least_is {m : List Int} {n : Nat} (h : m.Perm (ascN n)) (g : AtMost m (ascN n)) : m = ascN n := most_anti h (List.Perm.refl _) g (asc_least h)
theorem ascN_length' (n : Nat) : (ascN n).length = n := by simp [ascN]
theorem run_perm_n {l : List Int} {n : Nat} {cs : List Cmd} (h : l.Perm (ascN n)) (hf : Fits n cs) : (runM l cs).Perm (ascN n) := (runM_perm cs l (by rw [h.length_eq, ascN_length']; exact hf)).trans h
theorem back_perm_n {l : List Int} {n : Nat} {cs : List Cmd} (h : l.Perm (ascN n)) (hf : Fits n cs) : (backM cs l).Perm (ascN n) := (backM_perm (by rw [h.length_eq, ascN_length']; exact hf)).trans h
theorem perm_len {l : List Int} {n : Nat} (h : l.Perm (ascN n)) : l.length = n := by rw [h.length_eq, ascN_length']
/-- a row gets sorted exactly if it is at most the greatest row that does -/
theorem sorted_iff {l : List Int} {n : Nat} {cs : List Cmd} (h : l.Perm (ascN n)) (hf : Fits n cs) : runM l cs = ascN n ↔ AtMost l (backM cs (ascN n)) := by
  rw [← gal_run cs (by rw [perm_len h, ascN_length']) (by rw [ascN_length']; exact hf)]
  exact ⟨fun e => e ▸ most_refl _, fun g => least_is (run_perm_n h hf) g⟩
/-- the greatest row before a row is led to at most it -/
theorem back_run {m : List Int} {n : Nat} {cs : List Cmd} (h : m.Perm (ascN n)) (hf : Fits n cs) : AtMost (runM (backM cs m) cs) m :=
  (gal_run cs (by rw [perm_len (back_perm_n h hf), perm_len h]) (by rw [perm_len h]; exact hf)).mpr (most_refl _)
theorem to_back {l : List Int} {n : Nat} {cs : List Cmd} (h : l.Perm (ascN n)) (hf : Fits n cs) : AtMost l (backM cs (runM l cs)) := by
  have hl := perm_len (run_perm_n h hf)
  exact (gal_run cs (by rw [hl, perm_len h]) (by rw [hl]; exact hf)).mp (most_refl _)
/-- what a script made is made of the greatest row before it -/
theorem made_back {l : List Int} {n : Nat} {cs : List Cmd} (h : l.Perm (ascN n)) (hf : Fits n cs) : runM (backM cs (runM l cs)) cs = runM l cs := by
  have hr := run_perm_n h hf
  have hb := back_perm_n hr hf
  refine most_anti (run_perm_n hb hf) hr (back_run hr hf) ?_
  exact run_mono cs (by rw [perm_len h, perm_len hb]) (by rw [perm_len hb]; exact hf) (to_back h hf)
theorem back_mono {l m : List Int} {n : Nat} {cs : List Cmd} (h : l.Perm (ascN n)) (g : m.Perm (ascN n)) (hf : Fits n cs) (a : AtMost l m) : AtMost (backM cs l) (backM cs m) := by
  have hb := back_perm_n h hf
  refine (gal_run cs (by rw [perm_len hb, perm_len g]) (by rw [perm_len g]; exact hf)).mp (most_trans (back_run h hf) a)
/-- every arrangement is at most the falling one -/
theorem desc_most {m : List Int} {n : Nat} (h : m.Perm (ascN n)) : AtMost m (desc n) := by
  have hl := perm_len h
  refine (most_iff (arr_asc h) (arr_asc (desc_perm n)) (by rw [hl, desc_len])).mpr fun p hp q hq => ?_
  rw [hl] at hp hq
  have cz : ∀ (l : List Int), cnt l p q = zc l q p := fun l => by unfold cnt zc; rw [List.countP_eq_length_filter]
  rw [cz, cz]
  have eq' : ((n : Int) - ((n - q : Nat) : Int)) = (q : Int) := by omega
  have d1 := zc_desc (n := n) (n - q) (by omega) p hp
  have d2 := zc_desc (n := n) (n - q) (by omega) n (Nat.le_refl _)
  rw [eq'] at d1 d2
  have e1 : zc m q n = zc (desc n) q n := by
    rw [zc_all (by rw [hl]; exact Nat.le_refl _), zc_all (by rw [desc_len]; exact Nat.le_refl _), (h.trans (desc_perm n).symm).countP_eq]
  have m1 := (zc_mono (l := m) (t := q) (p := p) (n - p)).2
  rw [show p + (n - p) = n by omega] at m1
  omega
/-- a script whose effect is at most another one's leads all rows to at most what the other one does -/
theorem eff_most {l : List Int} {n : Nat} {cs ds : List Cmd} (hl : l.length = n) (hc : Fits n cs) (hd : Fits n ds) (h : AtMost (runM (desc n) cs) (runM (desc n) ds)) : AtMost (runM l cs) (runM l ds) := by
  have a := told_run (n := n) (l0 := l) cs l (desc n) hc (by have := told_nil (l := l); rwa [hl] at this)
  have b := told_run (n := n) (l0 := l) ds l (desc n) hd (by have := told_nil (l := l); rwa [hl] at this)
  rw [most_zc] at h ⊢
  have key : ∀ p, p ≤ n → ∀ q : Nat, zc (runM l ds) q p ≤ zc (runM l cs) q p := fun p hp q => by
    obtain ⟨k, hk, e1⟩ := (a.2.2 q p hp).2
    have e2 := (b.2.2 q p hp).1 k hk
    have e3 := h p (n - k)
    rw [show (((n - k : Nat) : Nat) : Int) = (n : Int) - (k : Int) by omega] at e3
    omega
  intro p q
  by_cases hp : p ≤ n
  · exact key p hp q
  · have := key n (Nat.le_refl _) q
    rw [zc_all (l := runM l ds) (p := p) (by rw [b.1]; omega), zc_all (l := runM l cs) (p := p) (by rw [a.1]; omega)]
    rw [zc_all (l := runM l ds) (p := n) (by rw [b.1]; exact Nat.le_refl _), zc_all (l := runM l cs) (p := n) (by rw [a.1]; exact Nat.le_refl _)] at this
    exact this
theorem srt_asc {l : List Int} {n : Nat} (h : l.Perm (ascN n)) : srt l = ascN n := (srt_is h.symm (asc_up n)).symm
end My
namespace My
/-- the places, from 1 on, at which two rows differ -/
def difU (a b : List Int) (m : Nat) : List Nat := ((List.range m).filter fun i => decide (a.getD i 0 ≠ b.getD i 0)).map (· + 1)
def dif (a b : List Int) : List Nat := difU a b a.length
def chgM (a b : List Int) : Cmd := ((dif a b).headD 0, (dif a b).getLastD 0)
theorem difU_len (a b : List Int) (m : Nat) : (difU a b m).length ≤ m := by
  unfold difU
  rw [List.length_map]
  exact Nat.le_trans (List.length_filter_le _ _) (by rw [List.length_range]; exact Nat.le_refl _)
theorem difU_yes {a b : List Int} {m : Nat} (h : a.getD m 0 ≠ b.getD m 0) : difU a b (m + 1) = difU a b m ++ [m + 1] := by
  unfold difU
  rw [List.range_succ, List.filter_append, List.filter_cons_of_pos (by rw [decide_eq_true h]), List.map_append]; rfl
theorem difU_no {a b : List Int} {m : Nat} (h : ¬ a.getD m 0 ≠ b.getD m 0) : difU a b (m + 1) = difU a b m := by
  unfold difU
  rw [List.range_succ, List.filter_append, List.filter_cons_of_neg (by rw [decide_eq_false h]; simp)]; simp
theorem dif_mem {a b : List Int} {k : Nat} : k ∈ dif a b ↔ ∃ i, i < a.length ∧ a.getD i 0 ≠ b.getD i 0 ∧ k = i + 1 := by
  unfold dif difU
  rw [List.mem_map]
  constructor
  · rintro ⟨i, hi, rfl⟩
    obtain ⟨h1, h2⟩ := List.mem_filter.mp hi
    exact ⟨i, List.mem_range.mp h1, of_decide_eq_true h2, rfl⟩
  · rintro ⟨i, h1, h2, rfl⟩
    exact ⟨i, List.mem_filter.mpr ⟨List.mem_range.mpr h1, decide_eq_true h2⟩, rfl⟩
theorem dif_ne {a b : List Int} (hl : a.length = b.length) (h : a ≠ b) : dif a b ≠ [] := by
  intro e
  refine h (List.ext_getElem hl fun i h1 h2 => Classical.byContradiction fun g => ?_)
  have : i + 1 ∈ dif a b := dif_mem.mpr ⟨i, h1, by simpa [List.getD, h1, h2] using g, rfl⟩
  rw [e] at this; cases this
theorem dif_self (a : List Int) : dif a a = [] := by
  unfold dif difU
  rw [List.map_eq_nil_iff, List.filter_eq_nil_iff]
  intro i _; simp
theorem dif_nil {a b : List Int} (hl : a.length = b.length) : dif a b = [] ↔ a = b :=
  ⟨fun e => Classical.byContradiction fun h => dif_ne hl h e, fun e => by rw [e]; exact dif_self b⟩
end My
namespace My
theorem bub_way {E : List Int} {e : Nat} : ∀ (k : Nat) (l : List Int) (ps : List Nat), Way E l ps → Ins l e k → k ≤ e → e < l.length → Way E (bub k l ps).1 (bub k l ps).2 ∧ Down (bub k l ps).1 (e + 1)
  | 0, l, ps, h, hi, hk, hl => by
    rw [bub_done (l := l) (ps := ps) (by omega) (.inl rfl)]
    show Way E l ps ∧ Down l (e + 1)
    exact ⟨h, ins_done hi (by omega) hk (.inl rfl)⟩
  | k + 1, l, ps, h, hi, hk, hl => by
    by_cases g : l[k + 1 - 1]'(by omega) < l[k + 1]
    · rw [bub_step (by omega) (by omega) g]
      exact bub_way k _ _ (way_step h (by omega) (by omega) g) (ins_step hi (by omega) (by omega) hk g) (by omega) (by rw [swp_len]; exact hl)
    · rw [bub_done (l := l) (ps := ps) (by omega) (.inr ⟨by omega, g⟩)]
      show Way E l ps ∧ Down l (e + 1)
      exact ⟨h, ins_done hi (by omega) hk (.inr ⟨by omega, g⟩)⟩
theorem exU_way {E : List Int} : ∀ i, i < E.length → Way E (exU E i).1 (exU E i).2 ∧ Down (exU E i).1 (i + 1)
  | 0, _ => ⟨way_nil E, fun a b h1 h2 => by omega⟩
  | i + 1, h => by
    obtain ⟨w, d⟩ := exU_way (E := E) i (by omega)
    have hl := w.1.length_eq
    show Way E (bub (1 + i) (exU E i).1 (exU E i).2).1 (bub (1 + i) (exU E i).1 (exU E i).2).2 ∧ Down (bub (1 + i) (exU E i).1 (exU E i).2).1 (i + 1 + 1)
    rw [show 1 + i = i + 1 by omega]
    exact bub_way (i + 1) _ _ w (ins_start d) (Nat.le_refl _) (by omega)
theorem stand_ex {E : List Int} {n : Nat} (hE : E.Perm (ascN n)) (hn : 1 ≤ n) : Stand E (exM E) ∧ Liv (desc n) (exM E) := by
  have hl := perm_len hE
  obtain ⟨w, d⟩ := exU_way (E := E) (E.length - 1) (by omega)
  have d' : Down (exU E (E.length - 1)).1 n := fun a b h1 h2 => d a b h1 (by omega)
  exact ⟨way_end w hE d', way_liv w hE d'⟩
/-- each value counted from the other end -/
def mir (n : Nat) (l : List Int) : List Int := l.map fun v => (n : Int) + 1 - v
theorem mir_mir (n : Nat) (l : List Int) : mir n (mir n l) = l := by
  unfold mir
  rw [List.map_map]
  conv => rhs; rw [← List.map_id l]
  exact List.map_congr_left fun v _ => by show (n : Int) + 1 - ((n : Int) + 1 - v) = v; omega
theorem mir_len (n : Nat) (l : List Int) : (mir n l).length = l.length := by simp [mir]
theorem mir_asc (n : Nat) : mir n (ascN n) = desc n := by
  unfold mir ascN desc
  rw [List.map_map]
  exact List.map_congr_left fun k _ => by show (n : Int) + 1 - (1 + (k : Int)) = (n : Int) - k; omega
theorem mir_desc (n : Nat) : mir n (desc n) = ascN n := by rw [← mir_asc, mir_mir]
theorem mir_perm {n : Nat} {l : List Int} (h : l.Perm (ascN n)) : (mir n l).Perm (ascN n) := by
  have : (mir n l).Perm (mir n (ascN n)) := h.map _
  rw [mir_asc] at this
  exact this.trans (desc_perm n)
theorem srt_mir (n : Nat) (l : List Int) : srt (mir n l) = mir n (srt l).reverse := by
  refine (srt_is ?_ ?_).symm
  · exact ((List.reverse_perm _).trans (srt_perm l)).map _
  · unfold mir
    rw [List.pairwise_map, List.pairwise_reverse]
    exact (srt_up l).imp fun {a b} h => by omega
theorem step_mir (n : Nat) (l : List Int) (c : Cmd) : step (mir n l) c = mir n (dstep l c) := by
  unfold step seg dstep
  have e1 : (mir n l).take (c.1 - 1) = mir n (l.take (c.1 - 1)) := by simp [mir]
  have e2 : ((mir n l).drop (c.1 - 1)).take (c.2 - (c.1 - 1)) = mir n ((l.drop (c.1 - 1)).take (c.2 - (c.1 - 1))) := by simp [mir]
  have e3 : (mir n l).drop c.2 = mir n (l.drop c.2) := by simp [mir]
  rw [e1, e2, e3, srt_mir]
  simp [mir]
theorem run_mir (n : Nat) : ∀ (rs : List Cmd) (l : List Int), runM (mir n l) rs = mir n (backR rs l)
  | [], l => rfl
  | c :: r, l => by
    show runM (step (mir n l) c) r = mir n (backR r (dstep l c))
    rw [step_mir, run_mir n r]
theorem back_mir (n : Nat) (cs : List Cmd) (l : List Int) : backM cs l = mir n (runM (mir n l) cs.reverse) := by
  rw [run_mir, mir_mir]; rfl
theorem less_mir (n : Nat) (x : Int) (l : List Int) : less ((n : Int) + 1 - x) (mir n l) = gt x l := by
  unfold less gt mir
  rw [List.filter_map, List.length_map]
  refine congrArg List.length (List.filter_congr fun v _ => ?_)
  show decide ((n : Int) + 1 - v < (n : Int) + 1 - x) = decide (x < v)
  exact decide_eq_decide.mpr ⟨fun _ => by omega, fun _ => by omega⟩
theorem inv_mir (n : Nat) : ∀ l : List Int, inv (mir n l) = asc l
  | [] => rfl
  | x :: r => by
    show less ((n : Int) + 1 - x) (mir n r) + inv (mir n r) = gt x r + asc r
    rw [less_mir, inv_mir n r]
theorem perm_nodup {l : List Int} {n : Nat} (h : l.Perm (ascN n)) : l.Nodup := h.nodup_iff.mpr (asc_nodup n)
/-- all pairs of places -/
theorem inv_asc {l : List Int} {n : Nat} (h : l.Perm (ascN n)) : inv l + asc l = inv (desc n) := by
  have h1 := asc_inv l (perm_nodup h)
  have h2 := desc_inv n
  rw [perm_len h] at h1
  omega
theorem inv_back_le {n : Nat} {cs : List Cmd} (hn : 1 ≤ n) (hf : Fits n cs) : inv (backM cs (ascN n)) + inv (runM (desc n) cs) ≤ inv (desc n) := by
  have hE := run_perm_n (desc_perm n) hf
  have hl := perm_len hE
  obtain ⟨st, lv⟩ := stand_ex hE hn
  have hps := (asc_count hE st lv).1
  have hia := inv_asc hE
  have hnb : Nb n (exM (runM (desc n) cs)) := by have := st.1; rwa [hl] at this
  generalize exM (runM (desc n) cs) = ps at st lv hps hnb
  -- the exchanges do the same, so they have the same greatest row
  have same : ∀ l : List Int, l.Perm (ascN n) → runM l (ps.map fun k => (k, k + 1)) = runM l cs := fun l hp => by
    have := stand_run (l := l) (cs := cs) st (by rw [perm_len hp, hl]) (by rw [hl]; exact hf) (by rw [hl])
    exact this
  have hb := back_perm_n (List.Perm.refl (ascN n)) hf
  have hb2 := back_perm_n (List.Perm.refl (ascN n)) hnb.fits
  have e : backM cs (ascN n) = backM (ps.map fun k => (k, k + 1)) (ascN n) := by
    have k1 := back_run (List.Perm.refl (ascN n)) hf
    have k2 := back_run (List.Perm.refl (ascN n)) hnb.fits
    rw [← same _ hb] at k1
    rw [same _ hb2] at k2
    refine most_anti hb hb2 ?_ ?_
    · exact (gal_run _ (by rw [perm_len hb, ascN_length']) (by rw [ascN_length']; exact hnb.fits)).mp k1
    · exact (gal_run _ (by rw [perm_len hb2, ascN_length']) (by rw [ascN_length']; exact hf)).mp k2
  -- each exchange, walked backward, adds one inversion at most
  have key : ∀ (qs : List Nat) (l : List Int), l.length = n → Nb n qs → inv (backR (qs.map fun k => (k, k + 1)) l) ≤ inv l + qs.length := by
    intro qs
    induction qs with
    | nil => intro l _ _; exact Nat.le_refl _
    | cons k r ih =>
      intro l hll hnb
      have hk := hnb k List.mem_cons_self
      have hd : dstep l (k, k + 1) = mir n (step (mir n l) (k, k + 1)) := by rw [step_mir, mir_mir]
      have hdl : (dstep l (k, k + 1)).length = n := by rw [(dstep_perm (l := l) (c := (k, k + 1)) (by show k ≤ k + 1; omega) (by show k + 1 ≤ l.length; omega)).length_eq, hll]
      have h2 := ih (dstep l (k, k + 1)) hdl fun j hj => hnb j (List.mem_cons_of_mem _ hj)
      have h3 : inv (dstep l (k, k + 1)) ≤ inv l + 1 := by
        obtain ⟨A, B, hl2, hA⟩ := two_at (l := l) (k := k) hk.1 (by omega)
        generalize l[k - 1] = a at hl2
        generalize l[k] = b at hl2
        have hd2 : dstep l (k, k + 1) = A ++ (srt [a, b]).reverse ++ B := by
          unfold dstep
          rw [hl2]
          have e1 : (A ++ a :: b :: B).take (k - 1) = A := by rw [← hA, List.take_left]
          have e2 : (A ++ a :: b :: B).drop (k - 1) = a :: b :: B := by rw [← hA, List.drop_left]
          have e3 : (A ++ a :: b :: B).drop (k + 1) = B := by rw [show k + 1 = A.length + 2 by omega, ← List.drop_drop, List.drop_left]; rfl
          show (A ++ a :: b :: B).take (k - 1) ++ (srt (((A ++ a :: b :: B).drop (k - 1)).take (k + 1 - (k - 1)))).reverse ++ (A ++ a :: b :: B).drop (k + 1) = _
          rw [e1, e2, e3, show k + 1 - (k - 1) = 2 by omega]; rfl
        rw [hd2, hl2]
        have i1 : inv (A ++ (srt [a, b]).reverse ++ B) + inv [a, b] = inv (A ++ [a, b] ++ B) + inv (srt [a, b]).reverse := by
          have p : ((srt [a, b]).reverse).Perm [a, b] := (List.reverse_perm _).trans (srt_perm _)
          rw [inv_app, inv_app, inv_app (A ++ [a, b]) B, inv_app A [a, b], crs_right p, crs_left (p.append_left A)]
          omega
        have i2 : inv (srt [a, b]).reverse ≤ 1 := by
          have : (srt [a, b]).length = 2 := srt_len _
          match hh : srt [a, b], this with
          | [x, y], _ => exact less_two y x
        have e4 : A ++ a :: b :: B = A ++ [a, b] ++ B := by simp
        rw [e4]
        omega
      show inv (backR (r.map fun k => (k, k + 1)) (dstep l (k, k + 1))) ≤ inv l + (r.length + 1)
      omega
  have h5 := key ps.reverse (ascN n) (ascN_length' n) fun k hk => hnb k (List.mem_reverse.mp hk)
  have h6 : inv (ascN n) = 0 := inv_sorted _ (asc_up n)
  rw [e]
  unfold backM
  rw [← List.map_reverse]
  rw [List.length_reverse] at h5
  omega
/-- what is missing ahead -/
theorem inv_back {n : Nat} {cs : List Cmd} (hn : 1 ≤ n) (hf : Fits n cs) : inv (backM cs (ascN n)) + inv (runM (desc n) cs) = inv (desc n) := by
  have h1 := inv_back_le hn hf
  have h2 := inv_back_le (cs := cs.reverse) hn hf.rev
  have hE := run_perm_n (desc_perm n) hf
  have hB := back_perm_n (List.Perm.refl (ascN n)) hf
  have e1 : backM cs.reverse (ascN n) = mir n (runM (desc n) cs) := by
    rw [back_mir n, mir_asc, List.reverse_reverse]
  have e2 : runM (desc n) cs.reverse = mir n (backM cs (ascN n)) := by
    rw [back_mir n cs, mir_asc, mir_mir]
  rw [e1, e2, inv_mir, inv_mir] at h2
  have h3 := inv_asc hE
  have h4 := inv_asc hB
  omega
theorem nbs_app (l : List Int) (p q : List Nat) : nbs l (p ++ q) = nbs (nbs l p) q := by unfold nbs; rw [List.map_append, runM_app]
theorem liv_snoc : ∀ (p : List Nat) (l : List Int) (k : Nat), Liv l (p ++ [k]) ↔ Liv l p ∧ seg (nbs l p) k (k + 1) ≠ nbs l p
  | [], l, k => ⟨fun h => ⟨trivial, h.1⟩, fun h => ⟨h.2, trivial⟩⟩
  | j :: r, l, k => by
    show (seg l j (j + 1) ≠ l ∧ Liv (seg l j (j + 1)) (r ++ [k])) ↔ (seg l j (j + 1) ≠ l ∧ Liv (seg l j (j + 1)) r) ∧ seg (nbs (seg l j (j + 1)) r) k (k + 1) ≠ nbs (seg l j (j + 1)) r
    rw [liv_snoc r]
    exact ⟨fun h => ⟨⟨h.1, h.2.1⟩, h.2.2⟩, fun h => ⟨h.1.1, h.1.2, h.2⟩⟩
/-- the way back, seen from the other end of the values -/
theorem rev_walk (n : Nat) : ∀ (ps : List Nat) (l : List Int), Nb l.length ps → Liv l ps → nbs (mir n (nbs l ps)) ps.reverse = mir n l ∧ Liv (mir n (nbs l ps)) ps.reverse
  | [], l, _, _ => ⟨rfl, trivial⟩
  | k :: r, l, hn, hl => by
    have hk := hn k List.mem_cons_self
    obtain ⟨A, B, e, hA⟩ := two_at (l := l) (k := k) hk.1 hk.2
    generalize l[k - 1] = a at e
    generalize l[k] = b at e
    have hs := seg_two (A := A) (B := B) (a := a) (b := b) hk.1 hA
    rw [← e] at hs
    have hab : b < a := Classical.byContradiction fun g => hl.1 (by rw [hs, if_neg g, e])
    rw [if_pos hab] at hs
    have hlen : (seg l k (k + 1)).length = l.length := seg_len (by omega) (by omega)
    obtain ⟨i1, i2⟩ := rev_walk n r (seg l k (k + 1)) (by rw [hlen]; exact fun j hj => hn j (List.mem_cons_of_mem _ hj)) hl.2
    have em : mir n (A ++ b :: a :: B) = mir n A ++ ((n : Int) + 1 - b) :: ((n : Int) + 1 - a) :: mir n B := by simp [mir]
    have back : seg (mir n (seg l k (k + 1))) k (k + 1) = mir n l := by
      rw [hs, em, seg_two hk.1 (by rw [mir_len]; exact hA), if_pos (by omega), e]
      show _ = mir n (A ++ a :: b :: B)
      simp [mir]
    show nbs (mir n (nbs (seg l k (k + 1)) r)) (k :: r).reverse = mir n l ∧ Liv (mir n (nbs (seg l k (k + 1)) r)) (k :: r).reverse
    rw [List.reverse_cons, nbs_snoc, i1, back, liv_snoc, i1, back]
    refine ⟨rfl, i2, fun g => hl.1 ?_⟩
    have := congrArg (mir n) g
    rw [mir_mir, mir_mir] at this
    exact this.symm
/-- the exchanges to be put behind, and ahead -/
def behM (n : Nat) (cs : List Cmd) : List Nat := (exM (mir n (runM (desc n) cs))).reverse
def ahdM (n : Nat) (cs : List Cmd) : List Nat := exM (backM cs (ascN n))
theorem beh_facts {n : Nat} {cs : List Cmd} (hn : 1 ≤ n) (hf : Fits n cs) : Nb n (behM n cs) ∧ nbs (runM (desc n) cs) (behM n cs) = ascN n ∧ Liv (runM (desc n) cs) (behM n cs) ∧ (behM n cs).length = inv (runM (desc n) cs) := by
  have hE := run_perm_n (desc_perm n) hf
  have hM := mir_perm hE
  obtain ⟨st, lv⟩ := stand_ex hM hn
  have hc := (asc_count hM st lv).1
  have hnb : Nb n (exM (mir n (runM (desc n) cs))) := by have := st.1; rwa [perm_len hM] at this
  obtain ⟨r1, r2⟩ := rev_walk n (exM (mir n (runM (desc n) cs))) (desc n) (by rw [desc_len]; first | done | exact hnb) lv
  have st2 : nbs (desc n) (exM (mir n (runM (desc n) cs))) = mir n (runM (desc n) cs) := by have := st.2; rwa [perm_len hM] at this
  rw [st2, mir_mir] at r1 r2
  rw [mir_desc] at r1
  refine ⟨fun k hk => hnb k (List.mem_reverse.mp hk), r1, r2, ?_⟩
  unfold behM
  rw [List.length_reverse, hc]
  have h1 := inv_asc hM
  rw [inv_mir] at h1
  have h2 := inv_asc hE
  omega
theorem ahd_facts {n : Nat} {cs : List Cmd} (hn : 1 ≤ n) (hf : Fits n cs) : Nb n (ahdM n cs) ∧ nbs (desc n) (ahdM n cs) = backM cs (ascN n) ∧ Liv (desc n) (ahdM n cs) ∧ (ahdM n cs).length = inv (runM (desc n) cs) ∧ runM (backM cs (ascN n)) cs = ascN n := by
  have hB := back_perm_n (List.Perm.refl (ascN n)) hf
  obtain ⟨st, lv⟩ := stand_ex hB hn
  have hc := (asc_count hB st lv).1
  have st1 := st.1
  have st2 := st.2
  rw [perm_len hB] at st1 st2
  refine ⟨st1, st2, lv, ?_, least_is (run_perm_n hB hf) (back_run (List.Perm.refl (ascN n)) hf)⟩
  unfold ahdM
  rw [hc]
  have h1 := inv_asc hB
  have h2 := inv_back hn hf
  omega
theorem inv_eff_le {n : Nat} {cs : List Cmd} (hf : Fits n cs) (hn : n ≤ 1000) : inv (runM (desc n) cs) ≤ 1000000 := by
  have := inv_le (runM (desc n) cs)
  rw [perm_len (run_perm_n (desc_perm n) hf)] at this
  exact Nat.le_trans this (Nat.mul_le_mul hn hn)
end My
namespace My
theorem getD_take {l : List Int} {i k : Nat} (h : i < k) : (l.take k).getD i 0 = l.getD i 0 := by
  simp [List.getD, h]
theorem getD_drop (l : List Int) (i k : Nat) : (l.drop k).getD i 0 = l.getD (k + i) 0 := by
  simp [List.getD]
theorem getD_left {l m : List Int} {i : Nat} (h : i < l.length) : (l ++ m).getD i 0 = l.getD i 0 := by
  simp [List.getD, List.getElem?_append_left h]
theorem getD_right {l m : List Int} {i : Nat} (h : l.length ≤ i) : (l ++ m).getD i 0 = m.getD (i - l.length) 0 := by
  simp [List.getD, List.getElem?_append_right h]
theorem getD_ext {l m : List Int} (hl : l.length = m.length) (h : ∀ i, i < l.length → l.getD i 0 = m.getD i 0) : l = m :=
  List.ext_getElem hl fun i h1 h2 => by have := h i h1; simpa [List.getD, h1, h2] using this
/-- a step changes nothing outside of its stretch -/
theorem step_out {l : List Int} {c : Cmd} {i : Nat} (h1 : c.1 ≤ c.2) (h2 : c.2 ≤ l.length) (h : i < c.1 - 1 ∨ c.2 ≤ i) : (step l c).getD i 0 = l.getD i 0 := by
  obtain ⟨A, M, B, e, hA, hM, e2⟩ := seg_split h1 h2
  have e3 : step l c = A ++ srt M ++ B := e2
  rw [e3, e]
  have hs := srt_len M
  rcases h with h | h
  · rw [getD_left (by rw [List.length_append]; omega), getD_left (by omega), getD_left (by rw [List.length_append]; omega), getD_left (by omega)]
  · rw [getD_right (by rw [List.length_append]; omega), getD_right (by rw [List.length_append]; omega), List.length_append, List.length_append, hs]
/-- what is alike outside of a stretch and sorted in it is what the step makes -/
theorem step_is {r t : List Int} {c : Cmd} (hp : r.Perm t) (h1 : c.1 ≤ c.2) (h2 : c.2 ≤ r.length) (ho : ∀ i, i < r.length → (i < c.1 - 1 ∨ c.2 ≤ i) → r.getD i 0 = t.getD i 0) (up : ((t.drop (c.1 - 1)).take (c.2 - (c.1 - 1))).Pairwise (· ≤ ·)) : step r c = t := by
  have hl := hp.length_eq
  obtain ⟨A, M, B, e, hA, hM, e2⟩ := seg_split h1 h2
  obtain ⟨A', M', B', e', hA', hM', _⟩ := seg_split (l := t) h1 (by omega)
  have lr : r.length = A.length + M.length + B.length := by rw [e]; simp; omega
  have lt : t.length = A'.length + M'.length + B'.length := by rw [e']; simp; omega
  have eM' : (t.drop (c.1 - 1)).take (c.2 - (c.1 - 1)) = M' := by
    rw [e', List.append_assoc, ← hA', List.drop_left, hA', ← hM', List.take_left]
  have eA : A = A' := getD_ext (by omega) fun i hi => by
    have := ho i (by omega) (.inl (by omega))
    rwa [e, e', getD_left (by rw [List.length_append]; omega), getD_left hi, getD_left (by rw [List.length_append]; omega), getD_left (by omega)] at this
  have eB : B = B' := getD_ext (by omega) fun i hi => by
    have := ho ((A ++ M).length + i) (by rw [List.length_append]; omega) (.inr (by rw [List.length_append]; omega))
    rwa [e, e', getD_right (by omega), getD_right (by rw [List.length_append, List.length_append]; omega), show (A ++ M).length + i - (A ++ M).length = i by omega, show (A ++ M).length + i - (A' ++ M').length = i by rw [List.length_append, List.length_append]; omega] at this
  have e3 : step r c = A ++ srt M ++ B := e2
  rw [eM'] at up
  rw [e, e', ← eA, ← eB, List.append_assoc, List.append_assoc, List.perm_append_left_iff, List.perm_append_right_iff] at hp
  rw [e3, e', ← eA, ← eB, ← srt_is hp.symm up]
theorem difU_up (a b : List Int) : (dif a b).Pairwise (· < ·) := by
  unfold dif difU
  rw [List.pairwise_map]
  exact (List.Pairwise.filter _ List.pairwise_lt_range).imp fun {x y} h => by omega
theorem chg_in {a b : List Int} (h : dif a b ≠ []) : (chgM a b).1 ∈ dif a b ∧ (chgM a b).2 ∈ dif a b := by
  unfold chgM
  generalize dif a b = l at h
  cases l with
  | nil => exact absurd rfl h
  | cons x r => exact ⟨List.mem_cons_self, by show (x :: r).getLastD 0 ∈ _; rw [List.getLastD_eq_getLast?, List.getLast?_eq_some_getLast (by simp)]; exact List.getLast_mem (by simp)⟩
theorem chg_all {a b : List Int} {k : Nat} (h : k ∈ dif a b) : (chgM a b).1 ≤ k ∧ k ≤ (chgM a b).2 := by
  have u := difU_up a b
  unfold chgM
  generalize dif a b = l at h u
  constructor
  · cases l with
    | nil => cases h
    | cons x r =>
      rcases List.mem_cons.mp h with e | e
      · rw [e]; exact Nat.le_refl _
      · exact Nat.le_of_lt ((List.pairwise_cons.mp u).1 k e)
  · have hne : l ≠ [] := by intro e; rw [e] at h; cases h
    have e : l = l.dropLast ++ [l.getLast hne] := (List.dropLast_concat_getLast hne).symm
    have e2 : l.getLastD 0 = l.getLast hne := by rw [List.getLastD_eq_getLast?, List.getLast?_eq_some_getLast hne]; rfl
    show k ≤ l.getLastD 0
    rw [e2]
    generalize l.getLast hne = x at e ⊢
    rw [e] at h u
    rcases List.mem_append.mp h with g | g
    · exact Nat.le_of_lt ((List.pairwise_append.mp u).2.2 k g x (List.mem_singleton.mpr rfl))
    · rw [List.mem_singleton.mp g]; exact Nat.le_refl _
theorem chg_fit {a b : List Int} (h : dif a b ≠ []) : 1 ≤ (chgM a b).1 ∧ (chgM a b).1 ≤ (chgM a b).2 ∧ (chgM a b).2 ≤ a.length := by
  obtain ⟨h1, h2⟩ := chg_in h
  obtain ⟨i, _, _, e1⟩ := dif_mem.mp h1
  obtain ⟨j, hj, _, e2⟩ := dif_mem.mp h2
  exact ⟨by omega, (chg_all h2).1, by omega⟩
/-- outside of the stretch of the differences the rows are alike -/
theorem chg_out {a b : List Int} {i : Nat} (hi : i < a.length) (h : i < (chgM a b).1 - 1 ∨ (chgM a b).2 ≤ i) : a.getD i 0 = b.getD i 0 :=
  Classical.byContradiction fun g => by
    have := chg_all (dif_mem.mpr ⟨i, hi, g, rfl⟩)
    omega
/-- a step that makes b of a holds all differences -/
theorem chg_step {a b : List Int} {c : Cmd} (h1 : c.1 ≤ c.2) (h2 : c.2 ≤ a.length) (hd : dif a b ≠ []) (e : step a c = b) : c.1 ≤ (chgM a b).1 ∧ (chgM a b).2 ≤ c.2 := by
  obtain ⟨m1, m2⟩ := chg_in hd
  obtain ⟨i, _, g1, e1⟩ := dif_mem.mp m1
  obtain ⟨j, _, g2, e2⟩ := dif_mem.mp m2
  constructor
  · refine Classical.byContradiction fun g => g1 ?_
    rw [← e, step_out h1 h2 (.inl (by omega))]
  · refine Classical.byContradiction fun g => g2 ?_
    rw [← e, step_out h1 h2 (.inr (by omega))]
/-- the steps that make the sorted row of a row are the ones that hold all differences -/
theorem step_asc {E : List Int} {n : Nat} {c : Cmd} (hE : E.Perm (ascN n)) (hne : E ≠ ascN n) (h1 : c.1 ≤ c.2) (h2 : c.2 ≤ n) : step E c = ascN n ↔ c.1 ≤ (chgM E (ascN n)).1 ∧ (chgM E (ascN n)).2 ≤ c.2 := by
  have hl := perm_len hE
  have hd := dif_ne (by rw [hl, ascN_length']) hne
  refine ⟨chg_step h1 (by omega) hd, fun h => step_is hE h1 (by omega) (fun i hi g => chg_out hi (by omega)) ?_⟩
  exact ((asc_up n).sublist ((List.take_sublist _ _).trans (List.drop_sublist _ _)))
/-- the stretch of the differences has two places at least -/
theorem chg_two {a b : List Int} (hp : a.Perm b) (hne : a ≠ b) : (chgM a b).1 < (chgM a b).2 := by
  have hl := hp.length_eq
  have hd := dif_ne hl hne
  obtain ⟨f1, f2, f3⟩ := chg_fit hd
  refine Nat.lt_of_le_of_ne f2 fun e => hne ?_
  have k1 : ∀ x : List Int, ((x.drop ((chgM a b).1 - 1)).take ((chgM a b).2 - ((chgM a b).1 - 1))).Pairwise (· ≤ ·) := fun x => by
    rw [← e, show (chgM a b).1 - ((chgM a b).1 - 1) = 1 by omega]
    cases x.drop ((chgM a b).1 - 1) with
    | nil => exact List.Pairwise.nil
    | cons y r => exact List.pairwise_singleton _ _
  have s1 : step a (chgM a b) = b := step_is hp f2 f3 (fun i hi g => chg_out hi g) (k1 b)
  have s2 : step a (chgM a b) = a := step_is (List.Perm.refl a) f2 f3 (fun i hi g => rfl) (k1 a)
  rw [← s1, s2]
theorem dif_comm {a b : List Int} (hl : a.length = b.length) : dif a b = dif b a := by
  unfold dif difU
  rw [hl]
  congr 1
  exact List.filter_congr fun i _ => decide_eq_decide.mpr ⟨fun h => h.symm, fun h => h.symm⟩
theorem dif_mir {n : Nat} {a b : List Int} (hl : a.length = b.length) : dif (mir n a) (mir n b) = dif a b := by
  unfold dif difU
  rw [mir_len]
  congr 1
  refine List.filter_congr fun i hi => decide_eq_decide.mpr ?_
  have hi := List.mem_range.mp hi
  have g : ∀ x : List Int, i < x.length → (mir n x).getD i 0 = (n : Int) + 1 - x.getD i 0 := fun x hx => by simp [mir, List.getD, hx]
  rw [g a hi, g b (by omega)]
  omega
theorem mir_inj {n : Nat} {a b : List Int} (h : mir n a = mir n b) : a = b := by rw [← mir_mir n a, h, mir_mir]
/-- a script sorts every row exactly if all rows walk back to the descending one -/
theorem full_back {n : Nat} {cs : List Cmd} (hn : 1 ≤ n) (hf : Fits n cs) : runM (desc n) cs = ascN n ↔ backM cs (ascN n) = desc n := by
  have hE := run_perm_n (desc_perm n) hf
  have hB := back_perm_n (List.Perm.refl (ascN n)) hf
  have k := inv_back hn hf
  constructor
  · intro h
    rw [h, inv_sorted _ (asc_up n)] at k
    have k2 := inv_asc hB
    have k3 : inv (mir n (backM cs (ascN n))) = 0 := by rw [inv_mir]; omega
    have k4 := srt_asc (mir_perm hB)
    rw [srt_id (inv_zero k3)] at k4
    rw [← mir_mir n (backM cs (ascN n)), k4, mir_asc]
  · intro h
    rw [h] at k
    have k4 := srt_asc hE
    rwa [srt_id (inv_zero (by omega))] at k4
theorem fit_behind {n : Nat} {cs : List Cmd} {c : Cmd} (hf : Fits n cs) (hne : runM (desc n) cs ≠ ascN n) (h1 : c.1 ≤ c.2) (h2 : c.2 ≤ n) : runM (desc n) (cs ++ [c]) = ascN n ↔ c.1 ≤ (chgM (runM (desc n) cs) (ascN n)).1 ∧ (chgM (runM (desc n) cs) (ascN n)).2 ≤ c.2 := by
  rw [runM_snoc]
  exact step_asc (run_perm_n (desc_perm n) hf) hne h1 h2
theorem fit_ahead {n : Nat} {cs : List Cmd} {c : Cmd} (hn : 1 ≤ n) (hf : Fits n cs) (hne : desc n ≠ backM cs (ascN n)) (h0 : 1 ≤ c.1) (h1 : c.1 ≤ c.2) (h2 : c.2 ≤ n) : runM (desc n) (c :: cs) = ascN n ↔ c.1 ≤ (chgM (desc n) (backM cs (ascN n))).1 ∧ (chgM (desc n) (backM cs (ascN n))).2 ≤ c.2 := by
  have hB := back_perm_n (List.Perm.refl (ascN n)) hf
  have hBl := perm_len hB
  have hf2 : Fits n (c :: cs) := fun d hd => by
    rcases List.mem_cons.mp hd with e | e
    · rw [e]; exact ⟨h0, h1, h2⟩
    · exact hf d e
  rw [full_back hn hf2]
  have e1 : backM (c :: cs) (ascN n) = dstep (backM cs (ascN n)) c := by
    unfold backM backR
    rw [List.reverse_cons, List.foldl_append]; rfl
  rw [e1]
  generalize backM cs (ascN n) = B at hB hBl hne
  have e2 : chgM (mir n B) (ascN n) = chgM (desc n) B := by
    unfold chgM
    have : dif (mir n B) (ascN n) = dif (desc n) B := by
      rw [← mir_desc n, dif_mir (by rw [hBl, desc_len]), dif_comm (by rw [hBl, desc_len])]
    rw [this]
  have k := step_asc (c := c) (mir_perm hB) (fun h => hne (by rw [← mir_mir n B, h, mir_asc])) h1 h2
  rw [e2, step_mir] at k
  rw [← k]
  exact ⟨fun h => by rw [h, mir_desc], fun h => mir_inj (n := n) (by rw [h, mir_desc])⟩
theorem step_one (l : List Int) (h : 1 ≤ l.length) : step l (1, 1) = l :=
  step_is (List.Perm.refl l) (Nat.le_refl 1) h (fun _ _ _ => rfl) (by
    show ((l.drop 0).take 1).Pairwise (· ≤ ·)
    cases l with
    | nil => exact List.Pairwise.nil
    | cons x r => exact List.pairwise_singleton _ _)
/-- the rows whose differences tell the command to be put behind, or ahead -/
def oneA (n : Nat) (cs : List Cmd) (w : Bool) : List Int := if w then desc n else runM (desc n) cs
def oneB (n : Nat) (cs : List Cmd) (w : Bool) : List Int := if w then backM cs (ascN n) else ascN n
def oneW (cs : List Cmd) (w : Bool) (c : Cmd) : List Cmd := if w then c :: cs else cs ++ [c]
theorem one_none {n : Nat} {cs : List Cmd} {w : Bool} (hn : 1 ≤ n) (hf : Fits n cs) : runM (desc n) (oneW cs w (1, 1)) = ascN n ↔ oneA n cs w = oneB n cs w := by
  cases w
  · show runM (desc n) (cs ++ [(1, 1)]) = ascN n ↔ runM (desc n) cs = ascN n
    rw [runM_snoc, step_one _ (by rw [perm_len (run_perm_n (desc_perm n) hf)]; exact hn)]
  · show runM (step (desc n) (1, 1)) cs = ascN n ↔ desc n = backM cs (ascN n)
    rw [step_one _ (by rw [desc_len]; exact hn), full_back hn hf]
    exact eq_comm
theorem one_fit {n : Nat} {cs : List Cmd} {w : Bool} {c : Cmd} (hn : 1 ≤ n) (hf : Fits n cs) (hne : oneA n cs w ≠ oneB n cs w) (h0 : 1 ≤ c.1) (h1 : c.1 ≤ c.2) (h2 : c.2 ≤ n) : runM (desc n) (oneW cs w c) = ascN n ↔ c.1 ≤ (chgM (oneA n cs w) (oneB n cs w)).1 ∧ (chgM (oneA n cs w) (oneB n cs w)).2 ≤ c.2 := by
  cases w
  · exact fit_behind hf hne h1 h2
  · exact fit_ahead hn hf hne h0 h1 h2
theorem one_in {n : Nat} {cs : List Cmd} {w : Bool} (hf : Fits n cs) (hne : oneA n cs w ≠ oneB n cs w) : 1 ≤ (chgM (oneA n cs w) (oneB n cs w)).1 ∧ (chgM (oneA n cs w) (oneB n cs w)).1 < (chgM (oneA n cs w) (oneB n cs w)).2 ∧ (chgM (oneA n cs w) (oneB n cs w)).2 ≤ n := by
  have hp : (oneA n cs w).Perm (oneB n cs w) ∧ (oneA n cs w).length = n := by
    cases w
    · have hE := run_perm_n (desc_perm n) hf
      exact ⟨hE, perm_len hE⟩
    · exact ⟨(desc_perm n).trans (back_perm_n (List.Perm.refl (ascN n)) hf).symm, desc_len n⟩
  obtain ⟨f1, f2, f3⟩ := chg_fit (dif_ne hp.1.length_eq hne)
  rw [hp.2] at f3
  exact ⟨f1, chg_two hp.1 hne, f3⟩
end My
namespace My
/-- the commands that change the row at their turn, each as short as possible -/
def trimR : List Int → List Cmd → List Cmd
  | _, [] => []
  | l, c :: r => if l = step l c then trimR (step l c) r else chgM l (step l c) :: trimR (step l c) r
theorem trimR_snoc : ∀ (cs : List Cmd) (l : List Int) (c : Cmd), trimR l (cs ++ [c]) = trimR l cs ++ (if runM l cs = step (runM l cs) c then [] else [chgM (runM l cs) (step (runM l cs) c)])
  | [], l, c => by
    show trimR l [c] = [] ++ (if l = step l c then [] else [chgM l (step l c)])
    unfold trimR
    rfl
  | d :: r, l, c => by
    show trimR l (d :: (r ++ [c])) = trimR l (d :: r) ++ (if runM (step l d) r = step (runM (step l d) r) c then [] else [chgM (runM (step l d) r) (step (runM (step l d) r) c)])
    rw [trimR, trimR, trimR_snoc r (step l d) c]
    by_cases h : l = step l d
    · rw [if_pos h, if_pos h]
    · rw [if_neg h, if_neg h]; rfl
theorem trimR_len (l : List Int) (cs : List Cmd) : (trimR l cs).length ≤ cs.length := by
  induction cs generalizing l with
  | nil => exact Nat.le_refl _
  | cons c r ih =>
    rw [trimR]
    split
    · exact Nat.le_trans (ih _) (Nat.le_succ _)
    · exact Nat.succ_le_succ (ih _)
/-- a step is one by the stretch of its changes -/
theorem step_chg {l : List Int} {c : Cmd} (h1 : c.1 ≤ c.2) (h2 : c.2 ≤ l.length) (hne : l ≠ step l c) : step l (chgM l (step l c)) = step l c := by
  have hp : l.Perm (step l c) := (seg_perm h1 h2).symm
  have hd := dif_ne hp.length_eq hne
  obtain ⟨f1, f2, f3⟩ := chg_fit hd
  obtain ⟨b1, b2⟩ := chg_step h1 h2 hd rfl
  refine step_is hp f2 f3 (fun i hi g => chg_out hi g) ?_
  obtain ⟨A, M, B, _, hA, hM, e2⟩ := seg_split h1 h2
  have e3 : step l c = A ++ srt M ++ B := e2
  have hs := srt_len M
  generalize chgM l (step l c) = d at f1 f2 f3 b1 b2
  rw [e3]
  have e4 : ((A ++ srt M ++ B).drop (d.1 - 1)).take (d.2 - (d.1 - 1)) = ((srt M).drop (d.1 - 1 - A.length)).take (d.2 - (d.1 - 1)) := by
    rw [List.append_assoc, List.drop_append, List.drop_of_length_le (by omega), List.nil_append, List.drop_append, List.take_append]
    have : d.2 - (d.1 - 1) - ((srt M).drop (d.1 - 1 - A.length)).length = 0 := by rw [List.length_drop]; omega
    rw [this, List.take_zero, List.append_nil]
  rw [e4]
  exact (srt_up M).sublist ((List.take_sublist _ _).trans (List.drop_sublist _ _))
/-- the steps within a command that do the same are the ones that hold all changes -/
theorem step_within {l : List Int} {c d : Cmd} (h1 : c.1 ≤ c.2) (h2 : c.2 ≤ l.length) (hne : l ≠ step l c) (hd : d.1 ≤ d.2) (hc1 : c.1 ≤ d.1) (hc2 : d.2 ≤ c.2) : step l d = step l c ↔ d.1 ≤ (chgM l (step l c)).1 ∧ (chgM l (step l c)).2 ≤ d.2 := by
  have hp : l.Perm (step l c) := (seg_perm h1 h2).symm
  have hdd := dif_ne hp.length_eq hne
  obtain ⟨f1, f2, f3⟩ := chg_fit hdd
  refine ⟨fun e => chg_step hd (by omega) hdd e, fun ⟨k1, k2⟩ => ?_⟩
  refine step_is hp hd (by omega) (fun i hi g => chg_out hi (by omega)) ?_
  obtain ⟨A, M, B, _, hA, hM, e2⟩ := seg_split h1 h2
  have e3 : step l c = A ++ srt M ++ B := e2
  have hs := srt_len M
  rw [e3]
  have e4 : ((A ++ srt M ++ B).drop (d.1 - 1)).take (d.2 - (d.1 - 1)) = ((srt M).drop (d.1 - 1 - A.length)).take (d.2 - (d.1 - 1)) := by
    rw [List.append_assoc, List.drop_append, List.drop_of_length_le (by omega), List.nil_append, List.drop_append, List.take_append]
    have : d.2 - (d.1 - 1) - ((srt M).drop (d.1 - 1 - A.length)).length = 0 := by rw [List.length_drop]; omega
    rw [this, List.take_zero, List.append_nil]
  rw [e4]
  exact (srt_up M).sublist ((List.take_sublist _ _).trans (List.drop_sublist _ _))
theorem chg_cmd {l : List Int} {c : Cmd} (h1 : c.1 ≤ c.2) (h2 : c.2 ≤ l.length) (hne : l ≠ step l c) : 1 ≤ (chgM l (step l c)).1 ∧ (chgM l (step l c)).1 < (chgM l (step l c)).2 ∧ (chgM l (step l c)).2 ≤ l.length ∧ c.1 ≤ (chgM l (step l c)).1 ∧ (chgM l (step l c)).2 ≤ c.2 := by
  have hp : l.Perm (step l c) := (seg_perm h1 h2).symm
  have hd := dif_ne hp.length_eq hne
  obtain ⟨f1, f2, f3⟩ := chg_fit hd
  obtain ⟨b1, b2⟩ := chg_step h1 h2 hd rfl
  exact ⟨f1, chg_two hp hne, f3, b1, b2⟩
theorem trim_run : ∀ (cs : List Cmd) (l : List Int), Fits l.length cs → runM l (trimR l cs) = runM l cs ∧ Fits l.length (trimR l cs)
  | [], l, _ => ⟨rfl, fun c hc => by cases hc⟩
  | c :: r, l, h => by
    have hc := h c List.mem_cons_self
    have hl : (step l c).length = l.length := seg_len hc.2.1 hc.2.2
    obtain ⟨i1, i2⟩ := trim_run r (step l c) (by rw [hl]; exact fun d hd => h d (List.mem_cons_of_mem _ hd))
    rw [hl] at i2
    rw [trimR]
    by_cases e : l = step l c
    · rw [if_pos e]
      refine ⟨?_, i2⟩
      show runM l (trimR (step l c) r) = runM (step l c) r
      exact (congrArg (fun x => runM x (trimR (step l c) r)) e).trans i1
    · rw [if_neg e]
      have k := chg_cmd hc.2.1 hc.2.2 e
      refine ⟨?_, fun d hd => ?_⟩
      · show runM (step l (chgM l (step l c))) (trimR (step l c) r) = runM (step l c) r
        rw [step_chg hc.2.1 hc.2.2 e, i1]
      · rcases List.mem_cons.mp hd with g | g
        · rw [g]; exact ⟨k.1, Nat.le_of_lt k.2.1, k.2.2.1⟩
        · exact i2 d g
/-- scripts of the same effect do the same to every row -/
theorem run_same {n : Nat} {cs ds : List Cmd} (hn : 1 ≤ n) (hf : Fits n cs) (hg : Fits n ds) (h : runM (desc n) cs = runM (desc n) ds) {l : List Int} (hl : l.length = n) : runM l cs = runM l ds := by
  have hE := run_perm_n (desc_perm n) hf
  obtain ⟨st, _⟩ := stand_ex hE hn
  have hEl := perm_len hE
  have k1 := stand_run (l := l) (cs := cs) st (by rw [hEl, hl]) (by rw [hEl]; exact hf) (by rw [hEl])
  have k2 := stand_run (l := l) (cs := ds) st (by rw [hEl, hl]) (by rw [hEl]; exact hg) (by rw [hEl, h])
  rw [← k1, ← k2]
theorem trim_eff {n : Nat} {cs : List Cmd} (hf : Fits n cs) : runM (desc n) (trimR (desc n) cs) = runM (desc n) cs ∧ Fits n (trimR (desc n) cs) := by
  have := trim_run cs (desc n) (by rw [desc_len]; exact hf)
  rw [desc_len] at this
  exact this
end My
namespace My
theorem asc_getD {n i : Nat} (h : i < n) : (ascN n).getD i 0 = (i : Int) + 1 := by
  unfold ascN
  simp [List.getD, h]
  omega
theorem asc_mem {n : Nat} {x : Int} : x ∈ ascN n ↔ 1 ≤ x ∧ x ≤ n := by
  unfold ascN
  rw [List.mem_map]
  constructor
  · rintro ⟨k, hk, rfl⟩
    have := List.mem_range.mp hk
    omega
  · intro ⟨h1, h2⟩
    exact ⟨(x - 1).toNat, List.mem_range.mpr (by omega), by omega⟩
theorem nodup_getD {l : List Int} (h : l.Nodup) {i j : Nat} (hi : i < l.length) (hj : j < l.length) (e : l.getD i 0 = l.getD j 0) : i = j := by
  have e' : l[i] = l[j] := by simpa [List.getD, hi, hj] using e
  have hp := List.pairwise_iff_getElem.mp h
  refine Classical.byContradiction fun g => ?_
  rcases Nat.lt_or_gt_of_ne g with k | k
  · exact hp i j hi hj k e'
  · exact hp j i hj hi k e'.symm
/-- exchanges that change a row stay where it differs from the ascending one -/
theorem liv_inside {n b e : Nat} : ∀ (ps : List Nat) (l : List Int), l.Perm (ascN n) → Nb n ps → Liv l ps → (∀ i, i < n → (i < b - 1 ∨ e ≤ i) → l.getD i 0 = (i : Int) + 1) → ∀ k ∈ ps, b ≤ k ∧ k + 1 ≤ e
  | [], _, _, _, _, _ => fun k hk => by cases hk
  | k :: r, l, hp, hn, hl, ho => by
    have hk := hn k List.mem_cons_self
    have hll := perm_len hp
    have hnd := perm_nodup hp
    have hk1 : k - 1 < l.length := by omega
    have hk2 : k < l.length := by omega
    have hba : l.getD k 0 < l.getD (k - 1) 0 := by
      obtain ⟨A, B, e1, hA⟩ := two_at (l := l) (k := k) hk.1 hk2
      have g1 : l.getD (k - 1) 0 = l[k - 1] := by simp [List.getD, hk1]
      have g2 : l.getD k 0 = l[k] := by simp [List.getD, hk2]
      rw [g1, g2]
      generalize l[k - 1] = a at e1
      generalize l[k] = b at e1
      have hs := seg_two (A := A) (B := B) (a := a) (b := b) hk.1 hA
      rw [← e1] at hs
      exact Classical.byContradiction fun g => hl.1 (by rw [hs, if_neg g, e1])
    have mem : ∀ i, i < l.length → 1 ≤ l.getD i 0 ∧ l.getD i 0 ≤ n := fun i hi => by
      have : l.getD i 0 ∈ l := by simp [List.getD, hi]
      exact asc_mem.mp (hp.mem_iff.mp this)
    have here : b ≤ k ∧ k + 1 ≤ e := by
      refine Classical.byContradiction fun g => ?_
      by_cases g1 : k < b
      · have a1 := ho (k - 1) (by omega) (.inl (by omega))
        have m := mem k hk2
        have a2 := ho ((l.getD k 0).toNat - 1) (by omega) (.inl (by omega))
        have := nodup_getD hnd (i := (l.getD k 0).toNat - 1) (j := k) (by omega) hk2 (by rw [a2]; omega)
        omega
      · have g2 : e ≤ k := by omega
        have a1 := ho k (by omega) (.inr g2)
        have m := mem (k - 1) hk1
        have a2 := ho ((l.getD (k - 1) 0).toNat - 1) (by omega) (.inr (by omega))
        have := nodup_getD hnd (i := (l.getD (k - 1) 0).toNat - 1) (j := k - 1) (by omega) hk1 (by rw [a2]; omega)
        omega
    have hp2 : (seg l k (k + 1)).Perm (ascN n) := (seg_perm (by omega) (by omega)).trans hp
    have rest := liv_inside r (seg l k (k + 1)) hp2 (fun j hj => hn j (List.mem_cons_of_mem _ hj)) hl.2 (fun i hi g => by
      rw [← ho i hi g]
      exact step_out (c := (k, k + 1)) (Nat.le_succ k) (by show k + 1 ≤ l.length; omega) (by show i < k - 1 ∨ k + 1 ≤ i; omega))
    intro j hj
    rcases List.mem_cons.mp hj with e1 | e1
    · rw [e1]; exact here
    · exact rest j e1
theorem beh_inside {n : Nat} {cs : List Cmd} (hn : 1 ≤ n) (hf : Fits n cs) : ∀ k ∈ behM n cs, (chgM (runM (desc n) cs) (ascN n)).1 ≤ k ∧ k + 1 ≤ (chgM (runM (desc n) cs) (ascN n)).2 := by
  have hE := run_perm_n (desc_perm n) hf
  obtain ⟨b1, _, b3, _⟩ := beh_facts hn hf
  exact liv_inside _ _ hE b1 b3 fun i hi g => by rw [chg_out (by rw [perm_len hE]; exact hi) g, asc_getD hi]
theorem run_full {n : Nat} {cs : List Cmd} (hn : 1 ≤ n) (hf : Fits n cs) (h : runM (desc n) cs = ascN n) {l : List Int} (hl : l.length = n) : runM l cs = srt l := by
  have h1 : ∀ m : List Int, m.length = n → step m (1, n) = srt m := fun m hm => by
    show m.take 0 ++ srt ((m.drop 0).take (n - 0)) ++ m.drop n = srt m
    rw [List.take_zero, List.drop_zero, Nat.sub_zero, List.take_of_length_le (by omega), List.drop_of_length_le (by omega), List.append_nil, List.nil_append]
  have hg : Fits n [((1, n) : Cmd)] := fun c hc => by rw [List.mem_singleton.mp hc]; exact ⟨Nat.le_refl 1, hn, Nat.le_refl n⟩
  have k := run_same (l := l) hn hf hg (by
    rw [h]
    show _ = step (desc n) (1, n)
    rw [h1 _ (desc_len n), srt_asc (desc_perm n)]) hl
  rw [k]
  exact h1 l hl
theorem beh_nil {n : Nat} {cs : List Cmd} (hn : 1 ≤ n) (hf : Fits n cs) : behM n cs = [] ↔ runM (desc n) cs = ascN n := by
  obtain ⟨b1, b2, b3, b4⟩ := beh_facts hn hf
  constructor
  · intro h
    rw [h] at b2
    exact b2
  · intro h
    rw [h, inv_sorted _ (asc_up n)] at b4
    exact List.length_eq_zero_iff.mp b4
theorem ahd_nil {n : Nat} {cs : List Cmd} (hn : 1 ≤ n) (hf : Fits n cs) : ahdM n cs = [] ↔ runM (desc n) cs = ascN n := by
  obtain ⟨_, _, _, a4, _⟩ := ahd_facts hn hf
  obtain ⟨_, _, _, b4⟩ := beh_facts hn hf
  rw [← beh_nil hn hf]
  constructor
  · intro h; exact List.length_eq_zero_iff.mp (by rw [b4, ← a4, h]; rfl)
  · intro h; exact List.length_eq_zero_iff.mp (by rw [a4, ← b4, h]; rfl)
theorem beh_full {n : Nat} {cs : List Cmd} (hn : 1 ≤ n) (hf : Fits n cs) : runM (desc n) (cs ++ (behM n cs).map fun k => (k, k + 1)) = ascN n := by
  rw [runM_app]
  exact (beh_facts hn hf).2.1
theorem ahd_full {n : Nat} {cs : List Cmd} (hn : 1 ≤ n) (hf : Fits n cs) : runM (desc n) (((ahdM n cs).map fun k => (k, k + 1)) ++ cs) = ascN n := by
  obtain ⟨_, a2, _, _, a5⟩ := ahd_facts hn hf
  rw [runM_app]
  show runM (nbs (desc n) (ahdM n cs)) cs = ascN n
  rw [a2, a5]
theorem inv_longer {n : Nat} {cs ds : List Cmd} (hf : Fits n cs) (hg : Fits n ds) : inv (runM (desc n) (cs ++ ds)) ≤ inv (runM (desc n) cs) ∧ AtMost (runM (desc n) (cs ++ ds)) (runM (desc n) cs) := by
  rw [runM_app]
  have hl := perm_len (run_perm_n (desc_perm n) hf)
  refine ⟨?_, run_le ds (by rw [hl]; exact hg)⟩
  generalize runM (desc n) cs = l at hl
  clear hf
  induction ds generalizing l with
  | nil => exact Nat.le_refl _
  | cons c r ih =>
    have hc := hg c List.mem_cons_self
    have h2 : (step l c).length = n := (seg_len hc.2.1 (by rw [hl]; exact hc.2.2)).trans hl
    exact Nat.le_trans (ih (fun d hd => hg d (List.mem_cons_of_mem _ hd)) (step l c) h2) (step_inv hc.2.1 (by rw [hl]; exact hc.2.2)).1
end My
namespace My
theorem inv_asc0 (n : Nat) : inv (ascN n) = 0 := inv_sorted _ (asc_up n)
/-- a script turned round has an effect with as many inversions -/
theorem eff_rev {n : Nat} {cs : List Cmd} (hn : 1 ≤ n) (hf : Fits n cs) : inv (runM (desc n) cs.reverse) = inv (runM (desc n) cs) := by
  have h1 := back_mir n cs (ascN n)
  rw [mir_asc] at h1
  have h2 : runM (desc n) cs.reverse = mir n (backM cs (ascN n)) := by rw [h1, mir_mir]
  have h3 := inv_asc (back_perm_n (List.Perm.refl (ascN n)) hf)
  have h4 := inv_back hn hf
  rw [h2, inv_mir]
  omega
end My
namespace My
/-- rows of k different values of 1 to n -/
def arrM (n : Nat) : Nat → List (List Int)
  | 0 => [[]]
  | k + 1 => (arrM n k).flatMap fun c => ((ascN n).filter fun v => !decide (v ∈ c)).map fun v => c ++ [v]
theorem nodup_perm : ∀ {l m : List Int}, l.Nodup → (∀ v ∈ l, v ∈ m) → m.length = l.length → l.Perm m
  | [], m, _, _, h => by rw [List.eq_nil_of_length_eq_zero h]
  | x :: r, m, hn, hs, h => by
    have h1 := List.nodup_cons.mp hn
    have hx := hs x List.mem_cons_self
    have hp := List.perm_cons_erase hx
    have hl := hp.length_eq
    rw [List.length_cons] at hl h
    refine ((nodup_perm (m := m.erase x) h1.2 (fun v hv => ?_) (by omega)).cons x).trans hp.symm
    have hne : v ≠ x := fun e => h1.1 (e ▸ hv)
    exact (List.mem_erase_of_ne hne).mpr (hs v (List.mem_cons_of_mem _ hv))
theorem arr_mem {n : Nat} : ∀ {k : Nat} {l : List Int}, l ∈ arrM n k → l.length = k ∧ l.Nodup ∧ ∀ v ∈ l, v ∈ ascN n
  | 0, l, h => by rw [List.mem_singleton.mp h]; exact ⟨rfl, List.nodup_nil, fun v hv => by cases hv⟩
  | k + 1, l, h => by
    obtain ⟨c, hc, h⟩ := List.mem_flatMap.mp h
    obtain ⟨v, hv, rfl⟩ := List.mem_map.mp h
    obtain ⟨h1, h2, h3⟩ := arr_mem hc
    rw [List.mem_filter] at hv
    have hvc : v ∉ c := by simpa using hv.2
    refine ⟨by rw [List.length_append, h1]; rfl, ?_, fun w hw => ?_⟩
    · rw [List.nodup_append]
      exact ⟨h2, List.nodup_cons.mpr ⟨by simp, List.nodup_nil⟩, fun a ha b hb => by rw [List.mem_singleton.mp hb]; intro e; exact hvc (e ▸ ha)⟩
    · rcases List.mem_append.mp hw with z | z
      · exact h3 w z
      · rw [List.mem_singleton.mp z]; exact hv.1
theorem arr_perm {n : Nat} {l : List Int} (h : l ∈ arrM n n) : l.Perm (ascN n) := by
  obtain ⟨h1, h2, h3⟩ := arr_mem h
  exact nodup_perm h2 h3 (by rw [h1]; simp [ascN])
/-- every arrangement is among them -/
theorem arr_all {n : Nat} : ∀ {k : Nat} {l : List Int}, l.length = k → l.Nodup → (∀ v ∈ l, v ∈ ascN n) → l ∈ arrM n k
  | 0, l, h, _, _ => by rw [List.eq_nil_of_length_eq_zero h]; exact List.mem_singleton.mpr rfl
  | k + 1, l, h, hn, hs => by
    have hne : l ≠ [] := fun e => by rw [e] at h; simp at h
    have e := List.dropLast_concat_getLast hne
    rw [← e] at hn hs ⊢
    rw [List.nodup_append] at hn
    refine List.mem_flatMap.mpr ⟨l.dropLast, arr_all (by rw [List.length_dropLast, h]; rfl) hn.1 (fun v hv => hs v (List.mem_append_left _ hv)), List.mem_map.mpr ⟨l.getLast hne, ?_, rfl⟩⟩
    rw [List.mem_filter]
    refine ⟨hs _ (by simp), ?_⟩
    simp only [Bool.not_eq_true', decide_eq_false_iff_not]
    intro hv
    exact hn.2.2 _ hv _ (List.mem_singleton.mpr rfl) rfl
theorem arr_desc (n : Nat) : desc n ∈ arrM n n := by
  have hp := desc_perm n
  refine arr_all (desc_len n) ?_ fun v hv => hp.mem_iff.mp hv
  rw [hp.nodup_iff]
  exact (arr_asc (List.Perm.refl _)).1
theorem arr_len {n : Nat} : ∀ k, (arrM n k).length ≤ n ^ k
  | 0 => by simp [arrM]
  | k + 1 => by
    have ih := arr_len (n := n) k
    have : ∀ (ls : List (List Int)), (ls.flatMap fun c => ((ascN n).filter fun v => !decide (v ∈ c)).map fun v => c ++ [v]).length ≤ ls.length * n := fun ls => by
      induction ls with
      | nil => simp
      | cons c r ih =>
        rw [List.flatMap_cons, List.length_append, List.length_cons, Nat.succ_mul, List.length_map]
        have h1 : ((ascN n).filter fun v => !decide (v ∈ c)).length ≤ n := Nat.le_trans (List.length_filter_le _ _) (by simp [ascN])
        omega
    show ((arrM n k).flatMap _).length ≤ n ^ (k + 1)
    exact Nat.le_trans (this _) (by rw [Nat.pow_succ]; exact Nat.mul_le_mul_right _ ih)
end My
namespace My
theorem drop_le : ∀ (qs : List Nat) (l : List Int), Nb l.length qs → inv l ≤ inv (nbs l qs) + qs.length
  | [], l, _ => Nat.le_refl _
  | k :: qs, l, h => by
    have hk := h k List.mem_cons_self
    have el : (seg l k (k + 1)).length = l.length := seg_len (by omega) (by omega)
    have ih := drop_le qs (seg l k (k + 1)) (by rw [el]; exact fun j hj => h j (List.mem_cons_of_mem _ hj))
    show inv l ≤ inv (nbs (seg l k (k + 1)) qs) + (qs.length + 1)
    by_cases e : seg l k (k + 1) = l
    · rw [e] at ih ⊢; omega
    · have := swap_inv (l := l) (k := k) hk.1 hk.2 e
      omega
/-- no row that gets sorted is nearer -/
theorem fit_le {n d : Nat} {cs : List Cmd} {x : List Int} (hn : 1 ≤ n) (hf : Fits n cs) (hp : x.Perm (ascN n)) (hs : runM x cs = ascN n) (hd : d + inv x = inv (desc n)) : inv (runM (desc n) cs) ≤ d := by
  have hl : x.length = n := perm_len hp
  obtain ⟨st, lv⟩ := stand_ex hp hn
  obtain ⟨_, hc⟩ := asc_count hp st lv
  have hdn := desc_inv n
  have hnb : Nb n (exM x) := by have := st.1; rwa [hl] at this
  have hx : nbs (desc n) (exM x) = x := by have := st.2; rwa [hl] at this
  have hfd : Fits n ((exM x).map (fun k => (k, k + 1)) ++ cs) := fun c hc => by
    rcases List.mem_append.mp hc with h | h
    · exact hnb.fits c h
    · exact hf c h
  have h1 : runM (desc n) ((exM x).map (fun k => (k, k + 1)) ++ cs) = ascN n := by
    rw [runM_app]
    have : runM (desc n) ((exM x).map fun k => (k, k + 1)) = x := hx
    rw [this]; exact hs
  have h2 := eff_rev hn hfd
  rw [h1, inv_asc0, List.reverse_append, runM_app, ← List.map_reverse] at h2
  have h3 := eff_rev hn hf
  have hrl : (runM (desc n) cs.reverse).length = n := by rw [runM_len (by rw [desc_len]; exact hf.rev), desc_len]
  have h4 := drop_le (exM x).reverse (runM (desc n) cs.reverse) (by rw [hrl]; exact fun j hj => hnb j (List.mem_reverse.mp hj))
  have h5 : inv (nbs (runM (desc n) cs.reverse) (exM x).reverse) = 0 := h2
  rw [h5, List.length_reverse, h3] at h4
  omega
end My
namespace L27
open PySem PySem.Spec PyProof.Rows L2 Xk
def topS (i : Nat) : Stmt := PySem.Challenge.pw_sortstretches_k27_completed_by_search.main.body.getD i (.Pass ⟨0, 0, 0, 0⟩)
abbrev s_check_size : Stmt := topS 6
theorem sc_check_size : FnScope ["size"] ["size"] (defScope s_check_size) := ⟨rfl, rfl, rfl, by decide +kernel, rfl, by decide +kernel, by decide +kernel⟩
abbrev s_check_script : Stmt := topS 7
theorem sc_check_script : FnScope ["size", "commands", "index", "first", "last"] ["size", "commands"] (defScope s_check_script) := ⟨rfl, rfl, rfl, by decide +kernel, rfl, by decide +kernel, by decide +kernel⟩
abbrev s_check_sized_script : Stmt := topS 8
theorem sc_check_sized_script : FnScope ["size", "commands"] ["size", "commands"] (defScope s_check_sized_script) := ⟨rfl, rfl, rfl, by decide +kernel, rfl, by decide +kernel, by decide +kernel⟩
abbrev s_check_arrangement : Stmt := topS 9
theorem sc_check_arrangement : FnScope ["row", "seen", "index", "value"] ["row"] (defScope s_check_arrangement) := ⟨rfl, rfl, rfl, by decide +kernel, rfl, by decide +kernel, by decide +kernel⟩
abbrev s_sort_stretches : Stmt := topS 11
theorem sc_sort_stretches : FnScope ["row", "commands", "present", "first", "last"] ["row", "commands"] (defScope s_sort_stretches) := ⟨rfl, rfl, rfl, by decide +kernel, rfl, by decide +kernel, by decide +kernel⟩
abbrev s_run : Stmt := topS 12
theorem sc_run : FnScope ["row", "commands"] ["row", "commands"] (defScope s_run) := ⟨rfl, rfl, rfl, by decide +kernel, rfl, by decide +kernel, by decide +kernel⟩
abbrev s_inversions : Stmt := topS 13
theorem sc_inversions : FnScope ["row", "many", "place", "value", "later"] ["row"] (defScope s_inversions) := ⟨rfl, rfl, rfl, by decide +kernel, rfl, by decide +kernel, by decide +kernel⟩
abbrev s_greatest_row : Stmt := topS 15
theorem sc_greatest_row : FnScope ["size", "commands"] ["size", "commands"] (defScope s_greatest_row) := ⟨rfl, rfl, rfl, by decide +kernel, rfl, by decide +kernel, by decide +kernel⟩
abbrev s_greatest_before : Stmt := topS 16
theorem sc_greatest_before : FnScope ["commands", "row", "present", "first", "last"] ["commands", "row"] (defScope s_greatest_before) := ⟨rfl, rfl, rfl, by decide +kernel, rfl, by decide +kernel, by decide +kernel⟩
abbrev s_descending_row : Stmt := topS 18
theorem sc_descending_row : FnScope ["size"] ["size"] (defScope s_descending_row) := ⟨rfl, rfl, rfl, by decide +kernel, rfl, by decide +kernel, by decide +kernel⟩
abbrev s_exchange_places : Stmt := topS 19
theorem sc_exchange_places : FnScope ["wanted", "present", "places", "end", "place"] ["wanted"] (defScope s_exchange_places) := ⟨rfl, rfl, rfl, by decide +kernel, rfl, by decide +kernel, by decide +kernel⟩
abbrev s_effect : Stmt := topS 20
theorem sc_effect : FnScope ["size", "commands"] ["size", "commands"] (defScope s_effect) := ⟨rfl, rfl, rfl, by decide +kernel, rfl, by decide +kernel, by decide +kernel⟩
abbrev s_exchanges : Stmt := topS 22
theorem sc_exchanges : FnScope ["wanted", "place"] ["wanted"] (defScope s_exchanges) := ⟨rfl, rfl, rfl, by decide +kernel, rfl, by decide +kernel, by decide +kernel⟩
abbrev s_missing_behind : Stmt := topS 24
theorem sc_missing_behind : FnScope ["size", "commands"] ["size", "commands"] (defScope s_missing_behind) := ⟨rfl, rfl, rfl, by decide +kernel, rfl, by decide +kernel, by decide +kernel⟩
abbrev s_missing_ahead : Stmt := topS 25
theorem sc_missing_ahead : FnScope ["size", "commands"] ["size", "commands"] (defScope s_missing_ahead) := ⟨rfl, rfl, rfl, by decide +kernel, rfl, by decide +kernel, by decide +kernel⟩
abbrev s_behind : Stmt := topS 26
theorem sc_behind : FnScope ["size", "commands", "made", "mirrored", "value"] ["size", "commands"] (defScope s_behind) := ⟨rfl, rfl, rfl, by decide +kernel, rfl, by decide +kernel, by decide +kernel⟩
abbrev s_ahead : Stmt := topS 27
theorem sc_ahead : FnScope ["size", "commands", "before"] ["size", "commands"] (defScope s_ahead) := ⟨rfl, rfl, rfl, by decide +kernel, rfl, by decide +kernel, by decide +kernel⟩
abbrev s_law_pool : Stmt := topS 29
theorem sc_law_pool : FnScope ["script", "at", "cell"] ["script", "at"] (defScope s_law_pool) := ⟨rfl, rfl, rfl, by decide +kernel, rfl, by decide +kernel, by decide +kernel⟩
abbrev s_law_draw : Stmt := topS 30
theorem sc_law_draw : FnScope ["pool", "many", "drawn", "mixed"] ["pool", "many"] (defScope s_law_draw) := ⟨rfl, rfl, rfl, by decide +kernel, rfl, by decide +kernel, by decide +kernel⟩
abbrev s_law_ran : Stmt := topS 31
theorem sc_law_ran : FnScope ["line_here", "steps_here", "found", "begin", "end"] ["line_here", "steps_here"] (defScope s_law_ran) := ⟨rfl, rfl, rfl, by decide +kernel, rfl, by decide +kernel, by decide +kernel⟩
abbrev s_law_falling : Stmt := topS 32
theorem sc_law_falling : FnScope ["wide"] ["wide"] (defScope s_law_falling) := ⟨rfl, rfl, rfl, by decide +kernel, rfl, by decide +kernel, by decide +kernel⟩
abbrev s_law_steps : Stmt := topS 33
theorem sc_law_steps : FnScope ["pool", "wide", "most", "way", "found", "cut", "turn", "begin", "end"] ["pool", "wide", "most"] (defScope s_law_steps) := ⟨rfl, rfl, rfl, by decide +kernel, rfl, by decide +kernel, by decide +kernel⟩
abbrev s_law_every : Stmt := topS 34
theorem sc_law_every : FnScope ["wide", "found", "spot", "longer", "begun", "value"] ["wide"] (defScope s_law_every) := ⟨rfl, rfl, rfl, by decide +kernel, rfl, by decide +kernel, by decide +kernel⟩
abbrev s_law_reached : Stmt := topS 35
theorem sc_law_reached : FnScope ["start", "found", "layer", "count", "later", "line_here", "place", "reached"] ["start"] (defScope s_law_reached) := ⟨rfl, rfl, rfl, by decide +kernel, rfl, by decide +kernel, by decide +kernel⟩
abbrev s_law_right : Stmt := topS 36
theorem sc_law_right : FnScope ["pool", "wide", "steps_here", "upward", "kept", "made", "from_falling", "fitting", "dues", "told", "again", "late", "early", "line_here", "fresh", "pair"] ["pool", "wide"] (defScope s_law_right) := ⟨rfl, rfl, rfl, by decide +kernel, rfl, by decide +kernel, by decide +kernel⟩
abbrev s_law : Stmt := topS 37
theorem sc_law : FnScope ["script", "at", "pool", "turn", "told"] ["script"] (defScope s_law) := ⟨rfl, rfl, rfl, by decide +kernel, rfl, by decide +kernel, by decide +kernel⟩
structure Txt (K : PySem.W.Frag) (mg : Str → Option Value) where
  check_size_a : Addr
  check_size_d : FuncData
  check_size_F : Fun K "check_size" "check_size" s_check_size check_size_a check_size_d
  check_size_b : Binds K check_size_d ["size"] []
  check_size_g : mg "check_size" = some (.ref check_size_a)
  check_script_a : Addr
  check_script_d : FuncData
  check_script_F : Fun K "check_script" "check_script" s_check_script check_script_a check_script_d
  check_script_b : Binds K check_script_d ["size", "commands"] []
  check_script_g : mg "check_script" = some (.ref check_script_a)
  check_sized_script_a : Addr
  check_sized_script_d : FuncData
  check_sized_script_F : Fun K "check_sized_script" "check_sized_script" s_check_sized_script check_sized_script_a check_sized_script_d
  check_sized_script_b : Binds K check_sized_script_d ["size", "commands"] []
  check_sized_script_g : mg "check_sized_script" = some (.ref check_sized_script_a)
  check_arrangement_a : Addr
  check_arrangement_d : FuncData
  check_arrangement_F : Fun K "check_arrangement" "check_arrangement" s_check_arrangement check_arrangement_a check_arrangement_d
  check_arrangement_b : Binds K check_arrangement_d ["row"] []
  check_arrangement_g : mg "check_arrangement" = some (.ref check_arrangement_a)
  sort_stretches_a : Addr
  sort_stretches_d : FuncData
  sort_stretches_F : Fun K "sort_stretches" "sort_stretches" s_sort_stretches sort_stretches_a sort_stretches_d
  sort_stretches_b : Binds K sort_stretches_d ["row", "commands"] []
  sort_stretches_g : mg "sort_stretches" = some (.ref sort_stretches_a)
  run_a : Addr
  run_d : FuncData
  run_F : Fun K "run" "run" s_run run_a run_d
  run_b : Binds K run_d ["row", "commands"] []
  run_g : mg "run" = some (.ref run_a)
  inversions_a : Addr
  inversions_d : FuncData
  inversions_F : Fun K "inversions" "inversions" s_inversions inversions_a inversions_d
  inversions_b : Binds K inversions_d ["row"] []
  inversions_g : mg "inversions" = some (.ref inversions_a)
  greatest_row_a : Addr
  greatest_row_d : FuncData
  greatest_row_F : Fun K "greatest_row" "greatest_row" s_greatest_row greatest_row_a greatest_row_d
  greatest_row_b : Binds K greatest_row_d ["size", "commands"] []
  greatest_row_g : mg "greatest_row" = some (.ref greatest_row_a)
  greatest_before_a : Addr
  greatest_before_d : FuncData
  greatest_before_F : Fun K "greatest_before" "greatest_before" s_greatest_before greatest_before_a greatest_before_d
  greatest_before_b : Binds K greatest_before_d ["commands", "row"] []
  greatest_before_g : mg "greatest_before" = some (.ref greatest_before_a)
  descending_row_a : Addr
  descending_row_d : FuncData
  descending_row_F : Fun K "descending_row" "descending_row" s_descending_row descending_row_a descending_row_d
  descending_row_b : Binds K descending_row_d ["size"] []
  descending_row_g : mg "descending_row" = some (.ref descending_row_a)
  exchange_places_a : Addr
  exchange_places_d : FuncData
  exchange_places_F : Fun K "exchange_places" "exchange_places" s_exchange_places exchange_places_a exchange_places_d
  exchange_places_b : Binds K exchange_places_d ["wanted"] []
  exchange_places_g : mg "exchange_places" = some (.ref exchange_places_a)
  effect_a : Addr
  effect_d : FuncData
  effect_F : Fun K "effect" "effect" s_effect effect_a effect_d
  effect_b : Binds K effect_d ["size", "commands"] []
  effect_g : mg "effect" = some (.ref effect_a)
  exchanges_a : Addr
  exchanges_d : FuncData
  exchanges_F : Fun K "exchanges" "exchanges" s_exchanges exchanges_a exchanges_d
  exchanges_b : Binds K exchanges_d ["wanted"] []
  exchanges_g : mg "exchanges" = some (.ref exchanges_a)
  missing_behind_a : Addr
  missing_behind_d : FuncData
  missing_behind_F : Fun K "missing_behind" "missing_behind" s_missing_behind missing_behind_a missing_behind_d
  missing_behind_b : Binds K missing_behind_d ["size", "commands"] []
  missing_behind_g : mg "missing_behind" = some (.ref missing_behind_a)
  missing_ahead_a : Addr
  missing_ahead_d : FuncData
  missing_ahead_F : Fun K "missing_ahead" "missing_ahead" s_missing_ahead missing_ahead_a missing_ahead_d
  missing_ahead_b : Binds K missing_ahead_d ["size", "commands"] []
  missing_ahead_g : mg "missing_ahead" = some (.ref missing_ahead_a)
  behind_a : Addr
  behind_d : FuncData
  behind_F : Fun K "behind" "behind" s_behind behind_a behind_d
  behind_b : Binds K behind_d ["size", "commands"] []
  behind_g : mg "behind" = some (.ref behind_a)
  ahead_a : Addr
  ahead_d : FuncData
  ahead_F : Fun K "ahead" "ahead" s_ahead ahead_a ahead_d
  ahead_b : Binds K ahead_d ["size", "commands"] []
  ahead_g : mg "ahead" = some (.ref ahead_a)
  law_pool_a : Addr
  law_pool_d : FuncData
  law_pool_F : Fun K "_law_pool" "_law_pool" s_law_pool law_pool_a law_pool_d
  law_pool_b : Binds K law_pool_d ["script", "at"] []
  law_pool_g : mg "_law_pool" = some (.ref law_pool_a)
  law_draw_a : Addr
  law_draw_d : FuncData
  law_draw_F : Fun K "_law_draw" "_law_draw" s_law_draw law_draw_a law_draw_d
  law_draw_b : Binds K law_draw_d ["pool", "many"] []
  law_draw_g : mg "_law_draw" = some (.ref law_draw_a)
  law_ran_a : Addr
  law_ran_d : FuncData
  law_ran_F : Fun K "_law_ran" "_law_ran" s_law_ran law_ran_a law_ran_d
  law_ran_b : Binds K law_ran_d ["line_here", "steps_here"] []
  law_ran_g : mg "_law_ran" = some (.ref law_ran_a)
  law_falling_a : Addr
  law_falling_d : FuncData
  law_falling_F : Fun K "_law_falling" "_law_falling" s_law_falling law_falling_a law_falling_d
  law_falling_b : Binds K law_falling_d ["wide"] []
  law_falling_g : mg "_law_falling" = some (.ref law_falling_a)
  law_steps_a : Addr
  law_steps_d : FuncData
  law_steps_F : Fun K "_law_steps" "_law_steps" s_law_steps law_steps_a law_steps_d
  law_steps_b : Binds K law_steps_d ["pool", "wide", "most"] []
  law_steps_g : mg "_law_steps" = some (.ref law_steps_a)
  law_every_a : Addr
  law_every_d : FuncData
  law_every_F : Fun K "_law_every" "_law_every" s_law_every law_every_a law_every_d
  law_every_b : Binds K law_every_d ["wide"] []
  law_every_g : mg "_law_every" = some (.ref law_every_a)
  law_reached_a : Addr
  law_reached_d : FuncData
  law_reached_F : Fun K "_law_reached" "_law_reached" s_law_reached law_reached_a law_reached_d
  law_reached_b : Binds K law_reached_d ["start"] []
  law_reached_g : mg "_law_reached" = some (.ref law_reached_a)
  law_right_a : Addr
  law_right_d : FuncData
  law_right_F : Fun K "_law_right" "_law_right" s_law_right law_right_a law_right_d
  law_right_b : Binds K law_right_d ["pool", "wide"] []
  law_right_g : mg "_law_right" = some (.ref law_right_a)
  law_a : Addr
  law_d : FuncData
  law_F : Fun K "law" "law" s_law law_a law_d
  law_b : Binds K law_d ["script"] []
  law_g : mg "law" = some (.ref law_a)
  k_ahead_commands_size : KBinds K ahead_d ["size", "commands"] ["commands", "size"] (fun (us ws : List Value) => match us, ws with | [], [w0, w1] => [w1, w0] | _, _ => []) (fun (us ws : List V) => match us, ws with | [], [w0, w1] => [w1, w0] | _, _ => [])
  k_behind_commands_size : KBinds K behind_d ["size", "commands"] ["commands", "size"] (fun (us ws : List Value) => match us, ws with | [], [w0, w1] => [w1, w0] | _, _ => []) (fun (us ws : List V) => match us, ws with | [], [w0, w1] => [w1, w0] | _, _ => [])
  k_missing_ahead_commands_size : KBinds K missing_ahead_d ["size", "commands"] ["commands", "size"] (fun (us ws : List Value) => match us, ws with | [], [w0, w1] => [w1, w0] | _, _ => []) (fun (us ws : List V) => match us, ws with | [], [w0, w1] => [w1, w0] | _, _ => [])
  k_missing_behind_commands_size : KBinds K missing_behind_d ["size", "commands"] ["commands", "size"] (fun (us ws : List Value) => match us, ws with | [], [w0, w1] => [w1, w0] | _, _ => []) (fun (us ws : List V) => match us, ws with | [], [w0, w1] => [w1, w0] | _, _ => [])
  m_abs : mg "abs" = none
  m_enumerate : mg "enumerate" = none
  m_len : mg "len" = none
  m_list : mg "list" = none
  m_max : mg "max" = none
  m_min : mg "min" = none
  m_range : mg "range" = none
  m_repr : mg "repr" = none
  m_reversed : mg "reversed" = none
  m_set : mg "set" = none
  m_sorted : mg "sorted" = none
  m_tuple : mg "tuple" = none
section
variable {P : Program} {w : World} {K : PySem.W.Frag} {mg : Str → Option Value} {base : Heap}
open My
theorem at_tab {n k : Nat} {f : Nat → Int} {z : Int} (e : z = (k : Int)) (h : k < n) : atI ((tab n f).map V.int) z = some (.int (f k)) := at_of e (by rw [List.getElem?_map, tab_get h]; rfl)
/-- at as stand rows -/
structure Rws (H : Hp) (as : List Addr) (ls : List (List Int)) : Prop where
  len : as.length = ls.length
  at_ : ∀ (i : Nat) (t : Addr), as[i]? = some t → ∃ l, ls[i]? = some l ∧ H t = some (.lst (l.map V.int))
theorem Rws.same {H H' : Hp} {as : List Addr} {ls : List (List Int)} (h : Rws H as ls) (s : Same H H') : Rws H' as ls :=
  ⟨h.len, fun i t e => let ⟨l, e1, e2⟩ := h.at_ i t e; ⟨l, e1, s _ _ e2⟩⟩
theorem Rws.nil {H : Hp} : Rws H [] [] := ⟨rfl, fun i t e => by simp at e⟩
theorem Rws.app {H : Hp} {ts us : List Addr} {cs ds : List (List Int)} (h : Rws H ts cs) (g : Rws H us ds) : Rws H (ts ++ us) (cs ++ ds) := by
  refine ⟨by rw [List.length_append, List.length_append, h.len, g.len], fun i p e => ?_⟩
  by_cases q : i < ts.length
  · rw [List.getElem?_append_left q] at e
    obtain ⟨c, e1, e2⟩ := h.at_ i p e
    exact ⟨c, by rw [List.getElem?_append_left (h.len ▸ q)]; exact e1, e2⟩
  · rw [List.getElem?_append_right (by omega)] at e
    obtain ⟨c, e1, e2⟩ := g.at_ _ p e
    exact ⟨c, by rw [List.getElem?_append_right (by have := h.len; omega), ← h.len]; exact e1, e2⟩
theorem Rws.one {H : Hp} {t : Addr} {l : List Int} (h : H t = some (.lst (l.map V.int))) : Rws H [t] [l] := ⟨rfl, fun i p e => by
  cases i with
  | zero => cases e; exact ⟨l, rfl, h⟩
  | succ i => simp at e⟩
theorem Rws.idx {H : Hp} {as : List Addr} {ls : List (List Int)} (h : Rws H as ls) {i : Nat} (hi : i < ls.length) : ∃ t, as[i]? = some t ∧ H t = some (.lst (ls[i].map V.int)) := by
  have hi' : i < as.length := by rw [h.len]; exact hi
  obtain ⟨c, e1, e2⟩ := h.at_ i _ (List.getElem?_eq_getElem hi')
  rw [List.getElem?_eq_getElem hi] at e1
  cases e1
  exact ⟨_, List.getElem?_eq_getElem hi', e2⟩
/-- kept if all rows are new and only what was there before, or p, is written -/
theorem Rws.upd_ {H : Hp} {as : List Addr} {ls : List (List Int)} {p : Addr} {o : HO} (h : Rws H as ls) (n : p ∉ as) : Rws (upd H p o) as ls :=
  ⟨h.len, fun i t e => let ⟨l, e1, e2⟩ := h.at_ i t e; ⟨l, e1, upd_to (fun q => n (q ▸ List.mem_of_getElem? e)) e2⟩⟩
open My
/-- at ts stand the commands cs, as tuples -/
structure Cm (H : Hp) (ts : List Addr) (cs : List Cmd) : Prop where
  len : ts.length = cs.length
  at_ : ∀ (i : Nat) (t : Addr), ts[i]? = some t → ∃ c, cs[i]? = some c ∧ H t = some (.tup [.int (c.1 : Nat), .int (c.2 : Nat)])
theorem Cm.same {H H' : Hp} {ts : List Addr} {cs : List Cmd} (h : Cm H ts cs) (s : Same H H') : Cm H' ts cs :=
  ⟨h.len, fun i t e => let ⟨c, e1, e2⟩ := h.at_ i t e; ⟨c, e1, s _ _ e2⟩⟩
theorem Cm.put {H : Hp} {ts : List Addr} {cs : List Cmd} {p : Addr} {xs : List V} {o : HO} (h : Cm H ts cs) (hp : H p = some (.lst xs)) : Cm (upd H p o) ts cs :=
  ⟨h.len, fun i t e => let ⟨c, e1, e2⟩ := h.at_ i t e; ⟨c, e1, upd_to (ne_of e2 hp (by intro z; cases z)) e2⟩⟩
theorem Cm.nil {H : Hp} : Cm H [] [] := ⟨rfl, fun i t e => by simp at e⟩
theorem Cm.snoc {H : Hp} {ts : List Addr} {cs : List Cmd} {t : Addr} {c : Cmd} (h : Cm H ts cs) (e : H t = some (.tup [.int (c.1 : Nat), .int (c.2 : Nat)])) : Cm H (ts ++ [t]) (cs ++ [c]) := by
  refine ⟨by rw [List.length_append, List.length_append, h.len]; rfl, fun i t' e' => ?_⟩
  by_cases q : i < ts.length
  · rw [List.getElem?_append_left q] at e'
    obtain ⟨c', e1, e2⟩ := h.at_ i t' e'
    exact ⟨c', by rw [List.getElem?_append_left (h.len ▸ q)]; exact e1, e2⟩
  · rw [List.getElem?_append_right (by omega)] at e'
    have e3 : i - ts.length = 0 := by
      cases hh : i - ts.length with
      | zero => rfl
      | succ k => rw [hh] at e'; simp at e'
    rw [e3] at e'
    cases e'
    exact ⟨c, by rw [List.getElem?_append_right (by have := h.len; omega), ← h.len, e3]; rfl, e⟩
theorem Cm.idx {H : Hp} {ts : List Addr} {cs : List Cmd} (h : Cm H ts cs) {i : Nat} (hi : i < cs.length) : ∃ t, ts[i]? = some t ∧ H t = some (.tup [.int (cs[i].1 : Nat), .int (cs[i].2 : Nat)]) := by
  have hi' : i < ts.length := by rw [h.len]; exact hi
  obtain ⟨c, e1, e2⟩ := h.at_ i _ (List.getElem?_eq_getElem hi')
  rw [List.getElem?_eq_getElem hi] at e1
  cases e1
  exact ⟨_, List.getElem?_eq_getElem hi', e2⟩
theorem Cm.take {H : Hp} {ts : List Addr} {cs : List Cmd} (h : Cm H ts cs) (k : Nat) : Cm H (ts.take k) (cs.take k) := by
  refine ⟨by rw [List.length_take, List.length_take, h.len], fun i t e => ?_⟩
  rw [List.getElem?_take] at e
  split at e
  · rename_i hk
    obtain ⟨c, e1, e2⟩ := h.at_ i t e
    exact ⟨c, by rw [List.getElem?_take, if_pos hk]; exact e1, e2⟩
  · cases e
theorem Cm.drop {H : Hp} {ts : List Addr} {cs : List Cmd} (h : Cm H ts cs) (k : Nat) : Cm H (ts.drop k) (cs.drop k) := by
  refine ⟨by rw [List.length_drop, List.length_drop, h.len], fun i t e => ?_⟩
  rw [List.getElem?_drop] at e
  obtain ⟨c, e1, e2⟩ := h.at_ _ t e
  exact ⟨c, by rw [List.getElem?_drop]; exact e1, e2⟩
/-! the data of a script -/
def dC1 (c : Cmd) : PyData := .tuple [.int (c.1 : Nat), .int (c.2 : Nat)]
abbrev dC (cs : List Cmd) : PyData := .list (cs.map dC1)
theorem dp_cmAll {K : PySem.W.Frag} {H : Hp} : ∀ {ts : List Addr} {cs : List Cmd}, Cm H ts cs → DpAll K H (ts.map V.ref) (cs.map dC1)
  | [], [], _ => .nil
  | [], _ :: _, h => nomatch h.len
  | _ :: _, [], h => nomatch h.len
  | t :: ts, c :: cs, h => by
    obtain ⟨c', e1, e2⟩ := h.at_ 0 t rfl
    cases e1
    refine .cons (.tup (sqT e2) (.cons (.int _) (.cons (.int _) .nil))) (dp_cmAll ⟨by have := h.len; simpa using this, fun i t' e => ?_⟩)
    exact h.at_ (i + 1) t' e
theorem dp_cm {K : PySem.W.Frag} {H : Hp} {a : Addr} {ts : List Addr} {cs : List Cmd} (h : SqL K H a (ts.map V.ref)) (hc : Cm H ts cs) : Dp K H (.ref a) (dC cs) := .lst h (dp_cmAll hc)
theorem lay_cm : ∀ cs : List Cmd, PyData.canLayAll0 (cs.map dC1) = true
  | [] => rfl
  | _ :: r => lay_cm r
theorem depth_cm : ∀ cs : List Cmd, PyData.depthAll (cs.map dC1) ≤ 1
  | [] => by decide
  | c :: r => by
    have := depth_cm r
    show max 1 (PyData.depthAll (r.map dC1)) ≤ 1
    omega
theorem depth_dC (cs : List Cmd) : (dC cs).depth ≤ 2 := by
  have := depth_cm cs
  show PyData.depthAll (cs.map dC1) + 1 ≤ 2
  omega
theorem shaped_dC (cs : List Cmd) : SeqAt.shaped (dC cs) = true := by
  unfold SeqAt.shaped
  rw [Bool.and_eq_true]
  refine ⟨lay_cm cs, ?_⟩
  have := depth_dC cs
  rw [decide_eq_true_eq]
  omega
theorem shaped_nil : SeqAt.shaped (.list []) = true := rfl
theorem r_neNilC {K : PySem.W.Frag} {H : Hp} {a b : Addr} {ts : List Addr} {cs : List Cmd} {Q : VK} (h : SqL K H a (ts.map V.ref)) (hc : Cm H ts cs) (g : SqL K H b []) (q : Q (.bl (!decide (cs = []))) H) : rNeD K (.ref a) (.ref b) H Q := by
  refine ⟨_, _, dp_cm h hc, .lst g .nil, shaped_dC cs, shaped_nil, ?_⟩
  have e : PyData.eqv (dC cs) (.list []) = decide (cs = []) := by cases cs <;> rfl
  rw [e]; exact q
theorem sh_dC {cs : List Cmd} {n : Nat} (h : ∀ c ∈ cs, c.1 ≤ n ∧ c.2 ≤ n) (hn : n ≤ 100000) : Sh (cs.length * 25 + 2) (dC cs) := by
  have := Sh.list (b := 23) (ds := cs.map dC1) fun d hd => by
    obtain ⟨c, hc, rfl⟩ := List.mem_map.mp hd
    have hb := h c hc
    refine (Sh.tuple (b := 8) fun e he => ?_).mono (by show 2 * (8 + 2) + 3 ≤ 23; decide)
    rcases List.mem_cons.mp he with e1 | e1
    · rw [e1]; exact (Sh.int (k := 7) (by decide) (by omega) (by decide)).mono (by decide)
    · rw [List.mem_singleton.mp e1]; exact (Sh.int (k := 7) (by decide) (by omega) (by decide)).mono (by decide)
  rw [List.length_map] at this
  exact this
def pI (ps : List Nat) : List Int := ps.map fun (k : Nat) => (k : Int)
/-- a row after so many rounds -/
def pwr (ps : List Nat) : Nat → List Int → List Int
  | 0, l => l
  | k + 1, l => pwr ps k (nbs l ps)
theorem pwr_fix {ps : List Nat} {l : List Int} (h : nbs l ps = l) : ∀ k, pwr ps k l = l
  | 0 => rfl
  | k + 1 => by show pwr ps k (nbs l ps) = l; rw [h]; exact pwr_fix h k
def rep (k : Nat) (cs : List Cmd) : List Cmd := (List.replicate k cs).flatten
theorem rep_succ (k : Nat) (cs : List Cmd) : rep (k + 1) cs = cs ++ rep k cs := by unfold rep; rw [List.replicate_succ, List.flatten_cons]
theorem rep_add (j k : Nat) (cs : List Cmd) : rep (j + k) cs = rep j cs ++ rep k cs := by unfold rep; rw [← List.flatten_append, List.replicate_append_replicate]
theorem fits_rep {n : Nat} {cs : List Cmd} (h : Fits n cs) (k : Nat) : Fits n (rep k cs) := fun c hc => by
  obtain ⟨l, h1, h2⟩ := List.mem_flatten.mp hc
  rw [List.eq_of_mem_replicate h1] at h2
  exact h c h2
theorem fits_app {n : Nat} {cs ds : List Cmd} (h : Fits n cs) (g : Fits n ds) : Fits n (cs ++ ds) := fun c hc => by
  rcases List.mem_append.mp hc with z | z
  · exact h c z
  · exact g c z
theorem pwr_run {E : List Int} {ps : List Nat} {cs : List Cmd} (hs : Stand E ps) (hc : Fits E.length cs) (he : runM (desc E.length) cs = E) : ∀ (k : Nat) (l : List Int), l.length = E.length → pwr ps k l = runM l (rep k cs)
  | 0, _, _ => rfl
  | k + 1, l, hl => by
    show pwr ps k (nbs l ps) = _
    rw [stand_run hs hl hc he, pwr_run hs hc he k _ (by rw [runM_len (by rw [hl]; exact hc)]; exact hl), rep_succ, runM_app]
theorem Cm.app {H : Hp} {ts us : List Addr} {cs ds : List Cmd} (h : Cm H ts cs) (g : Cm H us ds) : Cm H (ts ++ us) (cs ++ ds) := by
  refine ⟨by rw [List.length_append, List.length_append, h.len, g.len], fun i p e => ?_⟩
  by_cases q : i < ts.length
  · rw [List.getElem?_append_left q] at e
    obtain ⟨c, e1, e2⟩ := h.at_ i p e
    exact ⟨c, by rw [List.getElem?_append_left (h.len ▸ q)]; exact e1, e2⟩
  · rw [List.getElem?_append_right (by omega)] at e
    obtain ⟨c, e1, e2⟩ := g.at_ _ p e
    exact ⟨c, by rw [List.getElem?_append_right (by have := h.len; omega), ← h.len]; exact e1, e2⟩
theorem Cm.reps {H : Hp} {ts : List Addr} {cs : List Cmd} (h : Cm H ts cs) : ∀ k : Nat, Cm H (List.replicate k ts).flatten (rep k cs)
  | 0 => Cm.nil
  | k + 1 => by rw [List.replicate_succ, List.flatten_cons, rep_succ]; exact h.app (Cm.reps h k)
theorem pI_len (ps : List Nat) : (pI ps).length = ps.length := by simp [pI]
theorem eqv_cs : ∀ cs ds : List Cmd, PyData.eqvAll (cs.map dC1) (ds.map dC1) = decide (cs = ds)
  | [], [] => rfl
  | [], _ :: _ => rfl
  | _ :: _, [] => rfl
  | c :: r, d :: t => by
    show (((((c.1 : Nat) : Int) == ((d.1 : Nat) : Int)) && ((((c.2 : Nat) : Int) == ((d.2 : Nat) : Int)) && true)) && PyData.eqvAll (r.map dC1) (t.map dC1)) = _
    rw [eqv_cs r t]
    obtain ⟨a, b⟩ := c
    obtain ⟨a', b'⟩ := d
    by_cases e : a = a' <;> by_cases g : b = b' <;> by_cases f : r = t <;> simp [e, g, f] <;> omega
theorem r_eqCs {K : PySem.W.Frag} {H : Hp} {a b : Addr} {ts us : List Addr} {cs ds : List Cmd} {Q : VK} (h : SqL K H a (ts.map V.ref)) (hc : Cm H ts cs) (g : SqL K H b (us.map V.ref)) (gc : Cm H us ds) (q : Q (.bl (decide (cs = ds))) H) : rEqD K (.ref a) (.ref b) H Q :=
  ⟨_, _, dp_cm h hc, dp_cm g gc, shaped_dC cs, shaped_dC ds, by rw [show PyData.eqv (dC cs) (dC ds) = decide (cs = ds) from eqv_cs cs ds]; exact q⟩
theorem r_neCs {K : PySem.W.Frag} {H : Hp} {a b : Addr} {ts us : List Addr} {cs ds : List Cmd} {Q : VK} (h : SqL K H a (ts.map V.ref)) (hc : Cm H ts cs) (g : SqL K H b (us.map V.ref)) (gc : Cm H us ds) (q : Q (.bl (!decide (cs = ds))) H) : rNeD K (.ref a) (.ref b) H Q :=
  ⟨_, _, dp_cm h hc, dp_cm g gc, shaped_dC cs, shaped_dC ds, by rw [show PyData.eqv (dC cs) (dC ds) = decide (cs = ds) from eqv_cs cs ds]; exact q⟩
section keep
variable {K : PySem.W.Frag} {H H' H1 : Hp} {Q : VK} {a b p r g : Addr} {o : HO} {ns : List Int} {m : Nat}
theorem n_sorted (h : SqL K H a (ns.map V.int)) (q : New Q H (.lst ((srt ns).map V.int))) : rSortedI K [.ref a] H Q := ⟨a, ns, rfl, h, fun ns' p hp hu np => by
  have e := srt_is hp hu
  subst e
  exact q p np⟩
theorem Rws.row {as : List Addr} {ls : List (List Int)} (h : Rws H as ls) {i : Nat} {t : Addr} {l : List Int} (e : as[i]? = some t) (g : ls[i]? = some l) : H t = some (.lst (l.map V.int)) := by
  obtain ⟨l', e1, e2⟩ := h.at_ i t e
  rw [g] at e1; cases e1; exact e2
theorem n_reprC {ts : List Addr} {cs : List Cmd} {n : Nat} (h : SqL K H a (ts.map V.ref)) (hc : Cm H ts cs) (hf : Fits n cs) (hn : n ≤ 100000) (hl : cs.length ≤ 600000) (q : Q (.str (dC cs).shown) H) : rReprD K [.ref a] H Q :=
  r_repr (d := dC cs) (dp_cm h hc) (Nat.le_trans (depth_dC cs) (by decide)) (sh_dC (n := n) (fun c hc => by have := hf c hc; omega) hn) (by omega) q
/-- rows written one by one into a new list -/
def RwI (H1 : Hp) (D : Addr) (ms : List (List Int)) (i : Nat) (H : Hp) : Prop := ∃ es : List Addr, es.length = i ∧ H D = some (.lst (es.map V.ref)) ∧ Same H1 H ∧ (∀ t ∈ es, H1 t = none ∧ t ≠ D) ∧ Rws H es (ms.take i)
theorem rwi_nil {D : Addr} {ms : List (List Int)} (nD : H1 D = none) : RwI H1 D ms 0 (upd H1 D (.lst [])) := ⟨[], rfl, upd_same, same_new nD, (fun t ht => by cases ht), Rws.nil⟩
theorem rwi_put {D : Addr} {ms : List (List Int)} {i : Nat} {l : List Int} (h : RwI H1 D ms i H) (nD : H1 D = none) (hl : ms[i]? = some l) (hi : i ≤ 100000) (s : Same H H') (n : H p = none) (hp : H' p = some (.lst (l.map V.int))) :
    ∃ acc, H' D = some (.lst acc) ∧ acc.length < sizeLine ∧ RwI H1 D ms (i + 1) (upd H' D (.lst (acc ++ [.ref p]))) := by
  obtain ⟨es, hel, hD, sk, hfe, hE⟩ := h
  have hi' : i < ms.length := (List.getElem?_eq_some_iff.mp hl).1
  have ei : ms[i] = l := (List.getElem?_eq_some_iff.mp hl).2
  have n5 := sk.free n
  have h5D : p ≠ D := (ne_of_none hD n).symm
  refine ⟨_, s _ _ hD, by rw [List.length_map, hel]; exact size_lt (by omega), es ++ [p], by rw [List.length_append, hel]; rfl, by rw [upd_same]; simp, same_old (sk.trans s) nD, fun t ht => ?_, ?_⟩
  · rcases List.mem_append.mp ht with z | z
    · exact hfe t z
    · rw [List.mem_singleton.mp z]; exact ⟨n5, h5D⟩
  · rw [take_one hi', ei]
    refine (Rws.app (hE.same s) (Rws.one hp)).upd_ fun hm => ?_
    rcases List.mem_append.mp hm with z | z
    · exact (hfe _ z).2 rfl
    · exact h5D (List.mem_singleton.mp z).symm
theorem rwi_end {D : Addr} {ms : List (List Int)} {n : Nat} (h : RwI H1 D ms n H) (e : n = ms.length) : ∃ es : List Addr, H D = some (.lst (es.map V.ref)) ∧ Same H1 H ∧ (∀ t ∈ es, H1 t = none) ∧ Rws H es ms := by
  obtain ⟨es, hel, hD, sk, hfe, hE⟩ := h
  rw [e, List.take_of_length_le (Nat.le_refl _)] at hE
  exact ⟨es, hD, sk, fun t ht => (hfe t ht).1, hE⟩
theorem cm_same {ts : List Addr} {cs : List Cmd} (s : Same H H') (h : Cm H ts cs) : Cm H' ts cs := h.same s
theorem rws_same {as : List Addr} {ls : List (List Int)} (s : Same H H') (h : Rws H as ls) : Rws H' as ls := h.same s
theorem cm_new {ts : List Addr} {cs : List Cmd} (np : H a = none) (h : Cm H ts cs) : Cm (upd H a o) ts cs := h.same (same_new np)
theorem rws_new {as : List Addr} {ls : List (List Int)} (np : H a = none) (h : Rws H as ls) : Rws (upd H a o) as ls := h.same (same_new np)
/-- commands written one by one into a new list -/
def CmI (H1 : Hp) (D : Addr) (ds : List Cmd) (i : Nat) (H : Hp) : Prop := ∃ es : List Addr, es.length = i ∧ H D = some (.lst (es.map V.ref)) ∧ Same H1 H ∧ (∀ t ∈ es, H1 t = none ∧ t ≠ D) ∧ Cm H es (ds.take i)
theorem cmi_nil {D : Addr} {ds : List Cmd} (nD : H1 D = none) : CmI H1 D ds 0 (upd H1 D (.lst [])) := ⟨[], rfl, upd_same, same_new nD, (fun t ht => by cases ht), Cm.nil⟩
theorem cmi_put {D : Addr} {ds : List Cmd} {i : Nat} {c : Cmd} (h : CmI H1 D ds i H) (nD : H1 D = none) (hl : ds[i]? = some c) (hi : i ≤ 100000) (s : Same H H') (n : H p = none) (hp : H' p = some (.tup [.int (c.1 : Nat), .int (c.2 : Nat)])) :
    ∃ acc, H' D = some (.lst acc) ∧ acc.length < sizeLine ∧ CmI H1 D ds (i + 1) (upd H' D (.lst (acc ++ [.ref p]))) := by
  obtain ⟨es, hel, hD, sk, hfe, hE⟩ := h
  have hi' : i < ds.length := (List.getElem?_eq_some_iff.mp hl).1
  have ei : ds[i] = c := (List.getElem?_eq_some_iff.mp hl).2
  have n5 := sk.free n
  have h5D : p ≠ D := (ne_of_none hD n).symm
  refine ⟨_, s _ _ hD, by rw [List.length_map, hel]; exact size_lt (by omega), es ++ [p], by rw [List.length_append, hel]; rfl, by rw [upd_same]; simp, same_old (sk.trans s) nD, fun t ht => ?_, ?_⟩
  · rcases List.mem_append.mp ht with z | z
    · exact hfe t z
    · rw [List.mem_singleton.mp z]; exact ⟨n5, h5D⟩
  · rw [take_one hi', ei]
    exact ((hE.same s).snoc hp).put (s _ _ hD)
theorem cmi_end {D : Addr} {ds : List Cmd} {n : Nat} (h : CmI H1 D ds n H) (e : n = ds.length) : ∃ es : List Addr, H D = some (.lst (es.map V.ref)) ∧ Same H1 H ∧ (∀ t ∈ es, H1 t = none) ∧ Cm H es ds := by
  obtain ⟨es, hel, hD, sk, hfe, hE⟩ := h
  rw [e, List.take_of_length_le (Nat.le_refl _)] at hE
  exact ⟨es, hD, sk, fun t ht => (hfe t ht).1, hE⟩
theorem last_at {as : List Addr} {t : Addr} : atI ((as ++ [t]).map V.ref) (-1) = some (.ref t) := by
  unfold atI ixN
  rw [if_neg (by omega), if_pos (by rw [List.length_map, List.length_append]; simp only [List.length_singleton]; omega)]
  show ((as ++ [t]).map V.ref)[((-1 : Int) + ((as ++ [t]).map V.ref).length).toNat]? = _
  rw [show ((-1 : Int) + (((as ++ [t]).map V.ref).length : Nat)).toNat = as.length by simp; omega]
  simp
theorem last_ix {as : List Addr} {t : Addr} : ixN ((as ++ [t]).map V.ref).length (-1) = some as.length := by
  unfold ixN
  rw [if_neg (by omega), if_pos (by rw [List.length_map, List.length_append]; simp only [List.length_singleton]; omega)]
  exact congrArg some (by simp; omega)
theorem last_set {as : List Addr} {t u : Addr} : ((as ++ [t]).map V.ref).set as.length (.ref u) = (as ++ [u]).map V.ref := by simp
end keep
local macro_rules | `(tactic| fail "kp") => `(tactic| with_reducible first
  | (apply cm_same; assumption; fail "kp")
  | (apply rws_same; assumption; fail "kp")
  | (apply cm_new; assumption; fail "kp")
  | (apply rws_new; assumption; fail "kp"))
/-- it stood not before -/
local macro_rules | `(tactic| fail "kpz") => `(tactic| with_reducible first
  | assumption
  | (apply L2.Same.free; assumption; fail "kpz"))
/-- the pool of draws: [great, seed, turn] -/
def Pol (H : Hp) (r : Addr) (m : Nat) : Prop := ∃ a b c : Int, H r = some (.lst [.int a, .int b, .int c]) ∧ 0 ≤ a ∧ 0 ≤ b ∧ b < 2 ^ 62 ∧ 0 ≤ c ∧ c ≤ m
section keepC
variable {K : PySem.W.Frag} {H H' H0 : Hp} {r p b a : Addr} {m : Nat} {o : HO}
theorem Pol.same (h : Pol H r m) (s : Same H H') : Pol H' r m := by
  obtain ⟨a, b, c, h1, h2⟩ := h
  exact ⟨a, b, c, s _ _ h1, h2⟩
theorem Pol.le {n : Nat} (h : Pol H r m) (e : m ≤ n) : Pol H r n := by
  obtain ⟨a, b, c, h1, h2, h3, h4, h5, h6⟩ := h
  exact ⟨a, b, c, h1, h2, h3, h4, h5, by omega⟩
theorem Pol.ne (h : Pol H r m) (n : H p = none) : p ≠ r := by
  obtain ⟨a, b, c, h1, h2⟩ := h
  exact (ne_of_none h1 n).symm
theorem Pol.free (h : Pol H' r m) (s : Sx r H H') (n : H' p = none) : H p = none := by
  obtain ⟨a, b, c, h1, h2⟩ := h
  exact s.free h1 n
theorem Pol.other (h : Pol H r m) (n : p ≠ r) : Pol (upd H p o) r m := by
  obtain ⟨a, b, c, h1, h2⟩ := h
  exact ⟨a, b, c, upd_to n.symm h1, h2⟩
theorem pol_n (n : H p = none) (h : Pol H r m) : p ≠ r := h.ne n
theorem pol_same (s : Same H H') (h : Pol H r m) : Pol H' r m := h.same s
theorem pol_new (np : H p = none) (h : Pol H r m) : Pol (upd H p o) r m := h.same (same_new np)
theorem pol_free (s : Sx r H H') (n : H' p = none) (h : Pol H' r m) : H p = none := h.free s n
theorem cm_sx {ts : List Addr} {cs : List Cmd} (s : Sx r H H') (hR : Pol H r m) (h : Cm H ts cs) : Cm H' ts cs := by
  obtain ⟨a, b, c, hr, _⟩ := hR
  exact ⟨h.len, fun i t e => let ⟨c, e1, e2⟩ := h.at_ i t e; ⟨c, e1, s _ _ (ne_of e2 hr (by intro z; cases z)) e2⟩⟩
theorem rws_sx {as : List Addr} {ls : List (List Int)} (s : Sx r H H') (n : ∀ t ∈ as, t ≠ r) (h : Rws H as ls) : Rws H' as ls :=
  ⟨h.len, fun i t e => let ⟨l, e1, e2⟩ := h.at_ i t e; ⟨l, e1, s _ _ (n t (List.mem_of_getElem? e)) e2⟩⟩
theorem sx_same (t : Same H H') (s : Sx r H0 H) : Sx r H0 H' := s.same t
theorem sx_trans (t : Sx r H H') (s : Sx r H0 H) : Sx r H0 H' := s.trans t
theorem sx_new (np : H p = none) (s : Sx r H0 H) : Sx r H0 (upd H p o) := s.same (same_new np)
end keepC
local macro_rules | `(tactic| fail "kp") => `(tactic| with_reducible first
  | (apply cm_sx; assumption; fail "kp"; fail "kp")
  | (apply rws_sx; assumption; assumption; fail "kp")
  | (apply pol_same; assumption; fail "kp")
  | exact Sx.refl
  | (apply pol_new; assumption; fail "kp")
  | (apply sx_new; assumption; fail "kp")
  | (apply sx_same; assumption; fail "kp")
  | (apply sx_trans; assumption; fail "kp"))
local macro_rules | `(tactic| fail "kpn") => `(tactic| (with_reducible apply pol_n; assumption; fail "kp"))
local macro_rules | `(tactic| fail "kpz") => `(tactic| (with_reducible apply pol_free; assumption; fail "kpz"; fail "kp"))
open My
theorem rep_one (cs : List Cmd) : rep 1 cs = cs := by unfold rep; simp
theorem run_rep_succ (l : List Int) (k : Nat) (cs : List Cmd) : runM l (rep (k + 1) cs) = runM (runM l (rep k cs)) cs := by rw [rep_add, runM_app, rep_one]
theorem run_rep_fix {l : List Int} {cs : List Cmd} (h : runM l cs = l) : ∀ k, runM l (rep k cs) = l
  | 0 => rfl
  | k + 1 => by rw [run_rep_succ, run_rep_fix h k, h]
theorem rep_fits_len {n : Nat} {cs : List Cmd} (h : Fits n cs) (k : Nat) : (runM (desc n) (rep k cs)).length = n := by
  rw [runM_len (by rw [desc_len]; exact fits_rep h k), desc_len]
local macro_rules | `(tactic| fail "one") => `(tactic| with_reducible first | refine Xk.r_iRev ?_)
def witV (l : List Int) : V := match witM l with
  | none => .non
  | some x => .int x
theorem gone {H H' : Hp} {p : Addr} (s : Same H H') (h : H' p = none) : H p = none := by
  cases e : H p with
  | none => rfl
  | some u => rw [s _ _ e] at h; cases h
/-- the rows before the first command and after each one, as lists of their own -/
structure Stg (H H' : Hp) (rs : List Addr) (ns : List Int) (cs : List Cmd) : Prop where
  len : rs.length = cs.length + 1
  at_ : ∀ i b, rs[i]? = some b → H b = none ∧ H' b = some (.lst ((runM ns (cs.take i)).map V.int))
/-- the pairs of the rows before and after each command, from the descending row on -/
structure Chg (H' : Hp) (us : List Addr) (n : Nat) (cs : List Cmd) : Prop where
  len : us.length = cs.length
  at_ : ∀ (i : Nat) (u : Addr), us[i]? = some u → ∃ r r', H' u = some (.tup [.ref r, .ref r']) ∧ H' r = some (.lst ((runM (desc n) (cs.take i)).map V.int)) ∧ H' r' = some (.lst ((runM (desc n) (cs.take (i + 1))).map V.int))
theorem Chg.same {H H' : Hp} {us : List Addr} {n : Nat} {cs : List Cmd} (h : Chg H us n cs) (s : Same H H') : Chg H' us n cs :=
  ⟨h.len, fun i u e => let ⟨r, r', q1, q2, q3⟩ := h.at_ i u e; ⟨r, r', s _ _ q1, s _ _ q2, s _ _ q3⟩⟩
theorem neg1_at {xs : List V} {v : V} (h : 1 ≤ xs.length) (e : xs[xs.length - 1]? = some v) : atI xs (-1) = some v := by
  unfold atI ixN
  rw [if_neg (by omega), if_pos (by omega)]
  show xs[((-1 : Int) + xs.length).toNat]? = some v
  rw [show ((-1 : Int) + xs.length).toNat = xs.length - 1 by omega]
  exact e
theorem pI_head {l : List Nat} (h : l ≠ []) : ((pI l).map V.int)[0]? = some (.int ((l.headD 0 : Nat) : Int)) := by
  cases l with
  | nil => exact absurd rfl h
  | cons x r => rfl
theorem pI_last {l : List Nat} (h : l ≠ []) : ((pI l).map V.int)[((pI l).map V.int).length - 1]? = some (.int ((l.getLastD 0 : Nat) : Int)) := by
  have e : l = l.dropLast ++ [l.getLast h] := (List.dropLast_concat_getLast h).symm
  have e2 : l.getLastD 0 = l.getLast h := by rw [List.getLastD_eq_getLast?, List.getLast?_eq_some_getLast h]; rfl
  rw [e2]
  generalize l.getLast h = x at e ⊢
  rw [e]
  simp [pI]
theorem Cm.back {H : Hp} {ts : List Addr} {cs : List Cmd} (h : Cm H ts cs) : Cm H ts.reverse cs.reverse := by
  have hl := h.len
  refine ⟨by rw [List.length_reverse, List.length_reverse, hl], fun i t e => ?_⟩
  have hi : i < ts.length := by
    have := (List.getElem?_eq_some_iff.mp e).1
    rwa [List.length_reverse] at this
  rw [List.getElem?_reverse hi] at e
  obtain ⟨c, e1, e2⟩ := h.at_ _ t e
  exact ⟨c, by rw [List.getElem?_reverse (by omega), ← hl]; exact e1, e2⟩
theorem rg_upTo (n : Nat) : rgV 1 ((n : Int) + 1) = (ascN n).map V.int := by
  unfold rgV ascN
  rw [List.map_map, show ((n : Int) + 1 - 1).toNat = n by omega]
  rfl
/-- the shortest command over all places at which two rows differ, or None -/
def StD (H : Hp) (v : V) (a b : List Int) : Prop := (a = b ∧ v = .non) ∨ (a ≠ b ∧ ∃ p, v = .ref p ∧ H p = some (.tup [.int ((chgM a b).1 : Nat), .int ((chgM a b).2 : Nat)]))
theorem StD.same {H H' : Hp} {v : V} {a b : List Int} (h : StD H v a b) (s : Same H H') : StD H' v a b := by
  rcases h with h | ⟨h, p, e, g⟩
  · exact .inl h
  · exact .inr ⟨h, p, e, s _ _ g⟩
theorem std_same {H H' : Hp} {v : V} {a b : List Int} (s : Same H H') (h : StD H v a b) : StD H' v a b := h.same s
theorem std_new {H : Hp} {v : V} {a b : List Int} {p : Addr} {o : HO} (n : H p = none) (h : StD H v a b) : StD (upd H p o) v a b := h.same (same_new n)
def dStD (a b : List Int) : PyData := if a = b then .none else dC1 (chgM a b)
theorem StD.dp {K : PySem.W.Frag} {H : Hp} {v : V} {a b : List Int} (h : StD H v a b) : Dp K H v (dStD a b) := by
  unfold dStD
  rcases h with ⟨h, e⟩ | ⟨h, p, e, g⟩
  · rw [if_pos h, e]; exact .non
  · rw [if_neg h, e]; exact .tup (sqT g) (.cons (.int _) (.cons (.int _) .nil))
theorem shaped_StD (a b : List Int) : SeqAt.shaped (dStD a b) = true := by
  unfold dStD
  split <;> rfl
theorem eqv_StD (a b : List Int) : PyData.eqv (dStD a b) (dStD a b) = true := by
  unfold dStD
  split
  · rfl
  · show (((((chgM a b).1 : Nat) : Int) == (((chgM a b).1 : Nat) : Int)) && (((((chgM a b).2 : Nat) : Int) == (((chgM a b).2 : Nat) : Int)) && true)) = true
    simp
local macro_rules | `(tactic| fail "kp") => `(tactic| with_reducible first
  | (apply std_same; assumption; fail "kp")
  | (apply std_new; assumption; fail "kp"))
def CmF (H1 : Hp) (D : Addr) (ds : List Cmd) (H : Hp) : Prop := ∃ es : List Addr, H D = some (.lst (es.map V.ref)) ∧ Same H1 H ∧ (∀ t ∈ es, H1 t = none ∧ t ≠ D) ∧ Cm H es ds
theorem cmf_nil {H1 : Hp} {D : Addr} (nD : H1 D = none) : CmF H1 D [] (upd H1 D (.lst [])) := ⟨[], upd_same, same_new nD, (fun t ht => by cases ht), Cm.nil⟩
theorem CmF.same {H1 H H' : Hp} {D : Addr} {ds : List Cmd} (h : CmF H1 D ds H) (s : Same H H') : CmF H1 D ds H' := by
  obtain ⟨es, hD, sk, hfe, hE⟩ := h
  exact ⟨es, s _ _ hD, sk.trans s, hfe, hE.same s⟩
theorem cmf_put {H1 H H' : Hp} {D p : Addr} {ds : List Cmd} {c : Cmd} (h : CmF H1 D ds H) (nD : H1 D = none) (hi : ds.length ≤ 100000) (s : Same H H') (n : H p = none) (hp : H' p = some (.tup [.int (c.1 : Nat), .int (c.2 : Nat)])) :
    ∃ acc, H' D = some (.lst acc) ∧ acc.length < sizeLine ∧ CmF H1 D (ds ++ [c]) (upd H' D (.lst (acc ++ [.ref p]))) := by
  obtain ⟨es, hD, sk, hfe, hE⟩ := h
  have n5 := sk.free n
  have h5D : p ≠ D := (ne_of_none hD n).symm
  refine ⟨_, s _ _ hD, by rw [List.length_map, hE.len]; exact size_lt (by omega), es ++ [p], by rw [upd_same]; simp, same_old (sk.trans s) nD, fun t ht => ?_, ((hE.same s).snoc hp).put (s _ _ hD)⟩
  rcases List.mem_append.mp ht with z | z
  · exact hfe t z
  · rw [List.mem_singleton.mp z]; exact ⟨n5, h5D⟩
theorem r_notT' {A B : Prop} (h : A) : if (if true then !false else false) = true then A else B := by simpa using h
theorem r_notF' {A B : Prop} (h : B) : if (if true then !true else true) = true then A else B := by simpa using h
theorem n_tupOf {K : PySem.W.Frag} {H : Hp} {Q : VK} {p : Addr} {xs : List V} (h : SqL K H p xs) (q : New Q H (.tup xs)) : rTupOf K [.ref p] H Q := ⟨p, xs, rfl, .inl ⟨h, q⟩⟩
theorem n_listOf2 {K : PySem.W.Frag} {H : Hp} {Q : VK} {p : Addr} {xs : List V} (h : SqL K H p xs ∨ SqT K H p xs) (q : New Q H (.lst xs)) : rListOf K [.ref p] H Q := ⟨p, xs, rfl, h, q⟩
abbrev Fd := List (List Int × Nat)
def fkv (F : Fd) : List (List L2.Key × V) := F.map fun p => (p.1.map Sum.inl, V.int (p.2 : Int))
theorem key_v (l : List Int) : (l.map (Sum.inl : Int → L2.Key)).map kV = l.map V.int := by rw [List.map_map]; rfl
theorem step_two {x : List Int} {n p : Nat} (h : x.Perm (ascN n)) (h1 : 1 ≤ p) (h2 : p < n) : step x (p, p + 1) = x ∨ inv (step x (p, p + 1)) + 1 = inv x := by
  have hl : x.length = n := by rw [h.length_eq]; simp [ascN]
  by_cases e : seg x p (p + 1) = x
  · exact .inl e
  · exact .inr (swap_inv h1 (by omega) e)
theorem valV_none {F : Fd} {y : List Int} {d : Nat} (h : valV (fkv F) (y.map Sum.inl) = none) : putK (fkv F) (y.map Sum.inl) (V.int (d : Int)) = fkv (F ++ [(y, d)]) := by
  rw [putK_new _ h]
  unfold fkv
  rw [List.map_append]; rfl
theorem inl_inj : ∀ {a b : List Int}, a.map (Sum.inl : Int → L2.Key) = b.map Sum.inl → a = b
  | [], [], _ => rfl
  | [], _ :: _, h => by cases h
  | _ :: _, [], h => by cases h
  | x :: r, y :: t, h => by
    rw [List.map_cons, List.map_cons] at h
    injection h with h1 h2
    injection h1 with h3
    rw [h3, inl_inj h2]
theorem new_key {F : Fd} {y : List Int} {d : Nat} (h : valV (fkv F) (y.map Sum.inl) = none) : (valV (fkv (F ++ [(y, d)])) (y.map Sum.inl)).isSome = true := by
  have e : fkv (F ++ [(y, d)]) = fkv F ++ [(y.map Sum.inl, V.int (d : Int))] := by unfold fkv; rw [List.map_append]; rfl
  rw [e, valV_snoc _ _ _ _ h, if_pos rfl]; rfl
theorem keep_key {F : Fd} {y : List Int} {d : Nat} {k : List L2.Key} (h : valV (fkv F) (y.map Sum.inl) = none) (g : (valV (fkv F) k).isSome = true) : (valV (fkv (F ++ [(y, d)])) k).isSome = true := by
  have e : fkv (F ++ [(y, d)]) = fkv F ++ [(y.map Sum.inl, V.int (d : Int))] := by unfold fkv; rw [List.map_append]; rfl
  rw [e, valV_snoc _ _ _ _ h]
  split
  · rfl
  · exact g
theorem eqv_rws : ∀ as bs : List (List Int), PyData.eqvAll (as.map fun x => dI x) (bs.map fun x => dI x) = decide (as = bs)
  | [], [] => rfl
  | [], _ :: _ => rfl
  | _ :: _, [] => rfl
  | x :: r, y :: t => by
    show (PyData.eqv (dI x) (dI y) && PyData.eqvAll (r.map fun x => dI x) (t.map fun x => dI x)) = _
    rw [eqv_rws r t, eqv_dI]
    by_cases e : x = y <;> by_cases f : r = t <;> simp [e, f]
theorem dp_rowsAll {K : PySem.W.Frag} {H : Hp} : ∀ {as : List Addr} {ls : List (List Int)}, Rws H as ls → DpAll K H (as.map V.ref) (ls.map fun x => dI x)
  | [], [], _ => .nil
  | [], _ :: _, h => nomatch h.len
  | _ :: _, [], h => nomatch h.len
  | t :: as, l :: ls, h => by
    obtain ⟨c', e1, e2⟩ := h.at_ 0 t rfl
    cases e1
    exact .cons (dp_lst (sq e2)) (dp_rowsAll ⟨by have := h.len; simpa using this, fun i t' e => h.at_ (i + 1) t' e⟩)
theorem lay_rws : ∀ ls : List (List Int), PyData.canLayAll0 (ls.map fun x => dI x) = true
  | [] => rfl
  | l :: r => by
    show (PyData.canLayAll0 (l.map PyData.int) && PyData.canLayAll0 (r.map fun x => dI x)) = true
    rw [lay_ints, lay_rws r]; rfl
theorem depth_rws : ∀ ls : List (List Int), PyData.depthAll (ls.map fun x => dI x) ≤ 1
  | [] => Nat.zero_le _
  | l :: r => by
    show max (PyData.depthAll (l.map PyData.int) + 1) (PyData.depthAll (r.map fun x => dI x)) ≤ 1
    have := depth_rws r
    rw [depth_ints]; omega
theorem shaped_rws (ls : List (List Int)) : SeqAt.shaped (.list (ls.map fun x => dI x)) = true := by
  unfold SeqAt.shaped
  rw [Bool.and_eq_true]
  refine ⟨lay_rws ls, ?_⟩
  have := depth_rws ls
  show decide (PyData.depthAll (ls.map fun x => dI x) + 1 ≤ 64) = true
  rw [decide_eq_true_eq]; omega
theorem r_neRw {K : PySem.W.Frag} {H : Hp} {Q : VK} {a b : Addr} {as bs : List Addr} {ls ms : List (List Int)} (h : SqL K H a (as.map V.ref)) (ha : Rws H as ls) (g : SqL K H b (bs.map V.ref)) (hb : Rws H bs ms) (q : Q (.bl (!decide (ls = ms))) H) : rNeD K (.ref a) (.ref b) H Q :=
  ⟨_, _, .lst h (dp_rowsAll ha), .lst g (dp_rowsAll hb), shaped_rws ls, shaped_rws ms, by rw [show PyData.eqv (.list (ls.map fun x => dI x)) (.list (ms.map fun x => dI x)) = decide (ls = ms) from eqv_rws ls ms]; exact q⟩
/-- a row was found -/
def Kx (F : Fd) (x : List Int) : Prop := (valV (fkv F) (x.map Sum.inl)).isSome = true
/-- so was all that one exchange makes of it -/
def Cl (n : Nat) (F : Fd) (x : List Int) : Prop := ∀ p, 1 ≤ p → p < n → Kx F (step x (p, p + 1))
def GdT (n T : Nat) (F : Fd) : Prop := ∀ x ∈ F, x.1.Perm (ascN n) ∧ x.2 + inv x.1 = T
theorem Kx.mem {F : Fd} {x : List Int} (h : Kx F x) : ∃ d, (x, d) ∈ F := by
  induction F with
  | nil => cases h
  | cons p r ih =>
    by_cases e : p.1 = x
    · exact ⟨p.2, by rw [← e]; exact List.mem_cons_self⟩
    · have : Kx r x := by
        unfold Kx at h ⊢
        have e2 : fkv (p :: r) = (p.1.map Sum.inl, V.int (p.2 : Int)) :: fkv r := rfl
        rw [e2, valV_neg (fun z => e (inl_inj z))] at h
        exact h
      obtain ⟨d, hd⟩ := ih this
      exact ⟨d, List.mem_cons_of_mem _ hd⟩
theorem val_of {n T : Nat} : ∀ {F : Fd} {l : List Int} {d : Nat}, GdT n T F → (l, d) ∈ F → valV (fkv F) (l.map Sum.inl) = some (.int (d : Int))
  | [], _, _, _, h => by cases h
  | p :: r, l, d, hG, h => by
    show valV ((p.1.map Sum.inl, V.int (p.2 : Int)) :: fkv r) (l.map Sum.inl) = _
    by_cases e : p.1 = l
    · rw [valV_pos (by rw [e])]
      have h1 := (hG p List.mem_cons_self).2
      have h2 := (hG _ h).2
      have h2' : d + inv l = T := h2
      rw [e] at h1
      have : p.2 = d := by omega
      rw [this]
    · rw [valV_neg (fun z => e (inl_inj z))]
      refine val_of (fun x hx => hG x (List.mem_cons_of_mem _ hx)) ((List.mem_cons.mp h).resolve_left fun z => e (by rw [← z]))
theorem Kx.walk {n : Nat} {F : Fd} (hC : ∀ x d, (x, d) ∈ F → Cl n F x) : ∀ {ps : List Nat} {x : List Int}, Nb n ps → Kx F x → Kx F (nbs x ps)
  | [], _, _, h => h
  | k :: ps, x, hn, h => by
    obtain ⟨d, hd⟩ := h.mem
    have hk := hn k List.mem_cons_self
    exact Kx.walk hC (ps := ps) (x := step x (k, k + 1)) (fun j hj => hn j (List.mem_cons_of_mem _ hj)) (hC x d hd k hk.1 hk.2)
/-- what is so ahead of each round -/
def Wd (l : List Int) (n T : Nat) (a pd : Addr) (H : Hp) (w : Nat) (σ' : L2.St) (G : Hp) : Prop := ∃ (pl : Addr) (mm : Nat) (F : Fd) (as : List Addr) (rows : List (List Int)) (y4 y5 y6 y7 : Option V), σ' = [some (.ref a), some (.ref pd), some (.ref pl), some (.int (mm : Int)), y4, y5, y6, y7] ∧ Same H G ∧ G pd = some (.dT (fkv F)) ∧ GdT n T F ∧ G pl = some (.lst (as.map V.ref)) ∧ pl ≠ pd ∧ Rws G as rows ∧ (∀ t ∈ as, t ≠ pd) ∧ (∀ x ∈ rows, x.Perm (ascN n) ∧ mm + inv x = T) ∧ rows.length ≤ 4 ^ mm ∧ F.length ≤ 2 * 4 ^ mm ∧ w + mm = T + 1 ∧ (∀ x ∈ l :: rows, Kx F x) ∧ (∀ x d, (x, d) ∈ F → x ∈ rows ∨ Cl n F x)
def sp_check_size (K : PySem.W.Frag) : Sp := fun vs H Q _ => ∃ (n : Nat), vs = [.int n] ∧ 1 ≤ n ∧ Q .non H
theorem ok_check_size (T : Txt K mg) : FnG P w K mg base CX0 1 T.check_size_a T.check_size_d ["size"] (sp_check_size K) := by
  refine okG T.check_size_F sc_check_size (fun vs H Q E h => ?_) (fun cdv A ou t H vs Q E hG hr h => ?_)
  · obtain ⟨_, rfl, _⟩ := h; rfl
  have nd := sc_check_size.nd
  obtain ⟨n, rfl, hn, q⟩ := h
  refine ⟨_, (pss_one (ps_if (pt_cmpR op_lt (pv 0) pe_int (nomark _))
        (pss_one ps_never)
        pss_nil)), ?_⟩
  fail "g"
  refine r_itDF (by omega) ?_
  fail "g"
  exact q
def sp_check_script (K : PySem.W.Frag) : Sp := fun vs H Q _ => ∃ (n : Nat) (b : Addr) (ts : List Addr) (cs : List Cmd), vs = [.int n, .ref b] ∧ SqL K H b (ts.map V.ref) ∧ Cm H ts cs ∧ Fits n cs ∧ ∀ H', Same H H' → Q .non H'
theorem ok_check_script (T : Txt K mg) : FnG P w K mg base CX0 1 T.check_script_a T.check_script_d ["size", "commands"] (sp_check_script K) := by
  refine okG T.check_script_F sc_check_script (fun vs H Q E h => ?_) (fun cdv A ou t H vs Q E hG hr h => ?_)
  · obtain ⟨_, _, _, _, rfl, _⟩ := h; rfl
  have nd := sc_check_script.nd
  obtain ⟨n, b, ts, cs, rfl, hS, hC, hF, q⟩ := h
  refine ⟨_, (pss_one (ps_for PassesOwn.never rfl (pi_enumK K (by rfl) T.m_enumerate (pa_cons (pv 1) pa_nil)) (pg_tupK K 2 rfl (pgs_cons (gset 2 nd) (pgs_cons (pg_tupK K 2 rfl (pgs_cons (gset 3 nd) (pgs_cons (gset 4 nd) pgs_nil))) pgs_nil)))
        (pss_one (ps_if (PW.pt (pw_or (pt_cmpR op_lt (pv 3) pe_int (nomark _)) (pw_or (pt_cmpR op_lt (pv 4) (pv 3) (nomark _)) (pw_or1 (pt_cmpR op_gt (pv 4) (pv 0) (nomark _))))))
        (pss_one ps_never)
        pss_nil)))), ?_⟩
  fail "g"
  refine forP (walk_enum (xs := ts.map V.ref)) (fun i σ' H' => ∃ y2 y3 y4, σ' = [some (.int n), some (.ref b), y2, y3, y4] ∧ Same H H') ⟨none, none, none, rfl, Same.refl H⟩ (fun i σ' H' _ p => ?_) (fun i σ' H' T1 x y hi p e1 e2 nT => ?_) (fun σ' H' p => ?_)
  · obtain ⟨_, _, _, _, s⟩ := p; exact s.seq hS
  · obtain ⟨y2, y3, y4, rfl, s⟩ := p
    cases e1
    have hi' : i < cs.length := by rw [← hC.len]; simpa using hi
    obtain ⟨t0, et, ht⟩ := hC.idx hi'
    simp only [List.getElem?_map, et] at e2
    cases e2
    have hc := hF cs[i] (List.getElem_mem hi')
    have s1 := s.trans (same_new (o := .tup [.int (i : Nat), .ref t0]) nT)
    have ht1 := s1 _ _ ht
    fail "g"
    refine r_itDF (by omega) ?_
    fail "g"
    refine r_itDF (by omega) ?_
    fail "g"
    refine r_itDF (by omega) ?_
    fail "g"
    exact ⟨_, _, _, rfl, s1⟩
  · obtain ⟨y2, y3, y4, rfl, s⟩ := p
    fail "g"
    exact q _ s
def sp_check_arrangement (K : PySem.W.Frag) : Sp := fun vs H Q _ => ∃ (a : Addr) (ns : List Int), vs = [.ref a] ∧ SqL K H a (ns.map V.int) ∧ IsArr ns ∧ ns.length ≤ 1000 ∧ ∀ H', Same H H' → Q .non H'
theorem ok_check_arrangement (T : Txt K mg) : FnG P w K mg base CX0 1 T.check_arrangement_a T.check_arrangement_d ["row"] (sp_check_arrangement K) := by
  refine okG T.check_arrangement_F sc_check_arrangement (fun vs H Q E h => ?_) (fun cdv A ou t H vs Q E hG hr h => ?_)
  · obtain ⟨_, _, rfl, _⟩ := h; rfl
  have nd := sc_check_arrangement.nd
  obtain ⟨a, ns, rfl, hS, hA, hlen, q⟩ := h
  refine ⟨_, (pss_cons (sset 1 nd (pe_callTy0 cr_set0 (by rfl) T.m_set (by decide +kernel)))
      (pss_one (ps_for PassesOwn.never rfl (pi_enumK K (by rfl) T.m_enumerate (pa_cons (pv 0) pa_nil)) (pg_tupK K 2 rfl (pgs_cons (gset 2 nd) (pgs_cons (gset 3 nd) pgs_nil)))
        (pss_cons (ps_if (PW.pt (pw_or (pt_cmpR op_lt (pv 3) pe_int (nomark _)) (pw_or (pt_cmpR op_gt (pv 3) (pe_callB (lenK K) (by rfl) T.m_len PySem.boot_len (pa_cons (pv 0) pa_nil)) (nomark _)) (pw_or1 (pt_cmpR or_sin (pv 3) (pv 1) (by rfl))))))
        (pss_one ps_never)
        pss_nil)
      (pss_one (ps_expr (pe_sadd (pv 1) (pa_cons (pv 3) pa_nil)))))))), ?_⟩
  fail "g"
  refine r_set0 fun p np => ?_
  have s1 := same_new (o := SetO w p (fun _ => false) 0) np
  have hS1 := s1.seq hS
  fail "g"
  refine ⟨a, _, rfl, hS1, ?_⟩
  refine forEI (walk_enum (xs := ns.map V.int)) (fun i σ' H' => ∃ (S : Int → Bool) (n : Nat) (y2 y3 : Option V), σ' = [some (.ref a), some (.ref p), y2, y3] ∧ Same H H' ∧ H' p = some (SetO w p S n) ∧ n ≤ i ∧ ∀ v, S v = true → v ∈ ns.take i)
    ⟨fun _ => false, 0, none, none, rfl, s1, upd_same, Nat.le_refl _, fun v hv => by cases hv⟩ (fun i σ' H' _ p => ?_) (fun i σ' H' T1 hi p' nT => ?_) (fun σ' H' p' => ?_)
  · obtain ⟨_, _, _, _, _, s, _⟩ := p; exact s.seq hS
  · obtain ⟨S, n, y2, y3, rfl, s, hP, hn, hin⟩ := p'
    have s2 := s.trans (same_new (o := .tup [.int (i : Nat), .int ns[i]]) nT)
    have hS2 := s2.seq hS
    have hP2 := upd_old (o := .tup [.int (i : Nat), .int ns[i]]) nT hP
    have hv := hA.2 ns[i] (List.getElem_mem hi)
    fail "g"
    refine r_itDF (by omega) ?_
    fail "g"
    refine r_itDF (by rw [List.length_map]; omega) ?_
    fail "g"
    refine r_sin hP2 ?_
    have hno : S ns[i] = false := by
      cases h : S ns[i] with
      | false => rfl
      | true =>
        have h1 := hin _ h
        have h2 := hA.1
        rw [← List.take_append_drop i ns, List.nodup_append] at h2
        rw [List.drop_eq_getElem_cons hi] at h2
        exact absurd rfl (h2.2.2 _ h1 _ List.mem_cons_self)
    rw [hno]
    fail "g"
    refine ⟨⟨p, S, n, rfl, hP2⟩, ?_⟩
    fail "g"
    refine r_sadd hP2 (by omega) ?_
    fail "g"
    refine ⟨_, _, _, _, rfl, same_old s2 np, upd_same, by split <;> omega, fun v hv => ?_⟩
    rw [take_one hi]
    rcases Bool.or_eq_true_iff.mp hv with h | h
    · exact List.mem_append_left _ (hin v h)
    · rw [of_decide_eq_true h]; exact List.mem_append_right _ List.mem_cons_self
  · obtain ⟨S, n, y2, y3, rfl, s, hP, hn, hin⟩ := p'
    fail "g"
    exact q _ s
def sp_sort_stretches (K : PySem.W.Frag) : Sp := fun vs H Q _ => ∃ (a b : Addr) (ns : List Int) (ts : List Addr) (cs : List Cmd), vs = [.ref a, .ref b] ∧ SqL K H a (ns.map V.int) ∧ SqL K H b (ts.map V.ref) ∧ Cm H ts cs ∧ ns.length ≤ 1000 ∧ Fits ns.length cs ∧
  ∀ (H' : Hp) (p : Addr), Same H H' → H p = none → H' p = some (.lst ((runM ns cs).map V.int)) → Q (.ref p) H'
theorem ok_sort_stretches (T : Txt K mg) : FnG P w K mg base CX0 1 T.sort_stretches_a T.sort_stretches_d ["row", "commands"] (sp_sort_stretches K) := by
  refine okG T.sort_stretches_F sc_sort_stretches (fun vs H Q E h => ?_) (fun cdv A ou t H vs Q E hG hr h => ?_)
  · obtain ⟨_, _, _, _, _, rfl, _⟩ := h; rfl
  have nd := sc_sort_stretches.nd
  obtain ⟨a, b, ns, ts, cs, rfl, hS, hB, hC, hn2, hF, q⟩ := h
  refine ⟨_, (pss_cons (sset 2 nd (pe_callTy (listK K) (by rfl) T.m_list (by decide +kernel) (pa_cons (pv 0) pa_nil)))
      (pss_cons (ps_for PassesOwn.never rfl (pi_listK K (pv 1)) (pg_tupK K 2 rfl (pgs_cons (gset 3 nd) (pgs_cons (gset 4 nd) pgs_nil)))
        (pss_one (ps_asg (pe_callB (sortedK K) (by rfl) T.m_sorted (by decide +kernel) (pa_cons (pe_slice (sl_listK K) (pv 2) (po_some (pe_op op_sub (pv 3) pe_int)) (po_some (pv 4))) pa_nil)) (pg_slc (pv 2) (po_some (pe_op op_sub (pv 3) pe_int)) (po_some (pv 4))))))
      (pss_one (ps_ret (pv 2))))), ?_⟩
  fail "g"
  intro p np
  have hp : H p = none := np
  have s2 := same_new (o := .lst (ns.map V.int)) np
  have hB2 := s2.seq hB
  fail "g"
  refine forA (walk_list (xs := ts.map V.ref)) (fun i σ' H' => ∃ y3 y4, σ' = [some (.ref a), some (.ref b), some (.ref p), y3, y4] ∧ Same H H' ∧ H' p = some (.lst ((runM ns (cs.take i)).map V.int)))
    ⟨none, none, rfl, s2, upd_same⟩ (fun i σ' H' _ q => ?_) (fun i σ' H' hi q => ?_) (fun σ' H' q' => ?_)
  · obtain ⟨_, _, _, s, _⟩ := q; exact s.seq hB
  · obtain ⟨y3, y4, rfl, s, hP⟩ := q
    have hi' : i < cs.length := by rw [← hC.len]; simpa using hi
    obtain ⟨t0, et, ht⟩ := hC.idx hi'
    have e1 : (ts.map V.ref)[i] = .ref t0 := by
      have : (ts.map V.ref)[i]? = some (.ref t0) := by rw [List.getElem?_map, et]; rfl
      rw [List.getElem?_eq_getElem hi] at this
      exact Option.some.inj this
    rw [e1]
    have hc := hF cs[i] (List.getElem_mem hi')
    have ht1 := s _ _ ht
    have hlenP : (runM ns (cs.take i)).length = ns.length := runM_len hF.take
    fail "g"
    intro l0 n0
    rw [cut_mid (a := cs[i].1 - 1) (b := cs[i].2) (by omega) rfl (by rw [List.length_map]; omega), ← List.map_drop, ← List.map_take] at *
    fail "g"
    refine ⟨l0, _, rfl, sq upd_same, fun ns' l1 hperm hup n1 => ?_⟩
    have e2 := srt_is hperm hup
    subst e2
    fail "g"
    have hP2 := upd_old (o := .lst ((srt (((runM ns (cs.take i)).drop (cs[i].1 - 1)).take (cs[i].2 - (cs[i].1 - 1)))).map V.int)) n1 (upd_old (o := .lst ((((runM ns (cs.take i)).drop (cs[i].1 - 1)).take (cs[i].2 - (cs[i].1 - 1))).map V.int)) n0 hP)
    refine ⟨p, l1, _, _, _, _, rfl, rfl, rfl, rfl, hP2, upd_same, ne_of_none (upd_old n0 hP) n1, by omega, by omega, by rw [List.length_map]; omega, ?_, ?_⟩
    · rw [List.length_map, List.length_map, srt_len, List.length_take, List.length_drop]; exact size_le (by omega)
    · refine ⟨_, _, rfl, same_old ((s.trans (same_new n0)).trans (same_new n1)) hp, ?_⟩
      rw [upd_same, take_one hi', runM_snoc]
      rw [show ((cs[i].1 : Nat) - 1 : Int).toNat = cs[i].1 - 1 by omega, show ((cs[i].2 : Nat) : Int).toNat = cs[i].2 by omega, ← List.map_take, ← List.map_drop, ← List.map_append, ← List.map_append]
      rfl
  · obtain ⟨y3, y4, rfl, s, hP⟩ := q'
    fail "g"
    rw [List.take_of_length_le (by rw [List.length_map, hC.len]; exact Nat.le_refl _)] at hP
    exact q _ _ s hp hP
def sp_inversions (K : PySem.W.Frag) : Sp := fun vs H Q _ => ∃ (a : Addr) (ns : List Int), vs = [.ref a] ∧ SqL K H a (ns.map V.int) ∧ ns.length ≤ 100000 ∧ ∀ H', Same H H' → Q (.int (inv ns : Nat)) H'
theorem ok_inversions (T : Txt K mg) : FnG P w K mg base CX0 1 T.inversions_a T.inversions_d ["row"] (sp_inversions K) := by
  refine okG T.inversions_F sc_inversions (fun vs H Q E h => ?_) (fun cdv A ou t H vs Q E hG hr h => ?_)
  · obtain ⟨_, _, rfl, _⟩ := h; rfl
  have nd := sc_inversions.nd
  obtain ⟨a, ns, rfl, hS, hlen, q⟩ := h
  refine ⟨_, (pss_cons (sset 1 nd pe_int)
      (pss_cons (ps_for PassesOwn.never rfl (pi_enumK K (by rfl) T.m_enumerate (pa_cons (pv 0) pa_nil)) (pg_tupK K 2 rfl (pgs_cons (gset 2 nd) (pgs_cons (gset 3 nd) pgs_nil)))
        (pss_one (saug 1 nd (pe_callB (lenK K) (by rfl) T.m_len PySem.boot_len (pa_cons (pe_lc (own := [("later", 4)]) (hc := rfl) (hN := nd) (hi := (pi_listK K (pe_slice (sl_listK K) (pv 0) (po_some (pe_op op_add (pv 2) pe_int)) po_none))) (ok := blkOk_by (by rfl)) (hg := fun _ _ _ _ _ => (gset 4 nd)) (ht := (fun _ _ _ _ _ => pts_one (pt_cmpR op_lt (pv 4) (pv 3) (nomark _)))) (he := fun _ _ _ _ _ => (pv 4))) pa_nil)) ip_add)))
      (pss_one (ps_ret (pv 1))))), ?_⟩
  fail "g"
  refine forEI (walk_enum (xs := ns.map V.int)) (fun i σ' H' => ∃ y2 y3 y4, σ' = [some (.ref a), some (.int (invU ns i : Nat)), y2, y3, y4] ∧ Same H H') ⟨none, none, none, rfl, Same.refl H⟩ (fun i σ' H' _ p => ?_) (fun i σ' H' T1 hi p nT => ?_) (fun σ' H' p => ?_)
  · obtain ⟨_, _, _, _, s⟩ := p; exact s.seq hS
  · obtain ⟨y2, y3, y4, rfl, s⟩ := p
    have s1 := s.trans (same_new (o := .tup [.int (i : Nat), .int ns[i]]) nT)
    have hS1 := s1.seq hS
    fail "g"
    intro n nn
    rw [cut_from (a := i + 1) (by omega), map_drop']
    fail "g"
    intro D nD
    have s2 := s1.trans (same_new (o := .lst ((ns.drop (i + 1)).map V.int)) nn)
    refine lc_sameAI (walk_list (xs := (ns.drop (i + 1)).map V.int)) (fun j => (((ns.drop (i + 1)).take j).filter (fun y => decide (y < ns[i]))).map V.int) nD (Same.refl _) rfl (fun H s => s.seq (sq upd_same)) (fun j H hj p => ?_) (fun H p hH => ?_)
    · fail "g"
      refine ⟨rfl, ?_⟩
      fail "g"
      refine r_dec (fun h => ?_) (fun h => ?_)
      · fail "g"
        exact lc_add p (Same.refl _) nD (acc_filtT hj (decide_eq_true h)) (filt_len (by rw [List.length_drop]; omega))
      · exact lc_skip p (Same.refl _) (acc_filtF hj (decide_eq_false h))
    · fail "g"
      rw [show ((invU ns i : Nat) : Int) + _ = ((invU ns (i + 1) : Nat) : Int) by
        rw [List.take_of_length_le (Nat.le_refl _), List.length_map, invU, show ns.getD i 0 = ns[i] by simp [List.getD, hi], less]
        omega]
      exact ⟨_, _, _, rfl, s2.trans p⟩
  · obtain ⟨y2, y3, y4, rfl, s⟩ := p
    fail "g"
    rw [List.length_map, invU_all]
    exact q _ s
def sp_descending_row (K : PySem.W.Frag) : Sp := fun vs H Q _ => ∃ (n : Nat), vs = [.int n] ∧ n ≤ 1000 ∧ ∀ (H' : Hp) (p : Addr), Same H H' → H p = none → H' p = some (.lst ((desc n).map V.int)) → Q (.ref p) H'
theorem ok_descending_row (T : Txt K mg) : FnG P w K mg base CX0 1 T.descending_row_a T.descending_row_d ["size"] (sp_descending_row K) := by
  refine okG T.descending_row_F sc_descending_row (fun vs H Q E h => ?_) (fun cdv A ou t H vs Q E hG hr h => ?_)
  · obtain ⟨_, rfl, _⟩ := h; rfl
  have nd := sc_descending_row.nd
  obtain ⟨n, rfl, hn, q⟩ := h
  refine ⟨_, (pss_one (ps_ret (pe_listRg3 rfl (by rfl) T.m_list (by rfl) T.m_range (pa_cons (pv 0) (pa_cons pe_int (pa_cons (pe_un un_neg pe_int) pa_nil)))))), ?_⟩
  fail "g"
  refine ⟨_, _, _, _, rfl, RgC.neg (by omega) (by omega) (by omega) (by omega), by omega, fun p np => ?_⟩
  refine q _ p (same_new np) np (upd_same.trans ?_)
  have e : rg3V (n : Int) (-1) ((n : Int) - 0).toNat = (desc n).map V.int := by
    rw [show ((n : Int) - 0).toNat = n by omega]
    unfold rg3V desc
    rw [List.map_map]
    refine List.map_congr_left fun k _ => ?_
    show V.int ((n : Int) + (k : Nat) * (-1)) = V.int ((n : Int) - (k : Nat))
    rw [show ((n : Int) + (k : Nat) * (-1)) = (n : Int) - (k : Nat) by omega]
  rw [e]
def sp_exchange_places (K : PySem.W.Frag) : Sp := fun vs H Q _ => ∃ (a : Addr) (E : List Int) (n : Nat), vs = [.ref a] ∧ SqL K H a (E.map V.int) ∧ E.Perm (ascN n) ∧ n ≤ 1000 ∧
  ∀ (H' : Hp) (p : Addr) (ps : List Nat), Same H H' → H p = none → H' p = some (.lst ((pI ps).map V.int)) → Stand E ps → Liv (desc n) ps → ps = exM E → Q (.ref p) H'
theorem ok_exchange_places (T : Txt K mg) : FnG P w K mg base CX0 1 T.exchange_places_a T.exchange_places_d ["wanted"] (sp_exchange_places K) := by
  refine okG T.exchange_places_F sc_exchange_places (fun vs H Q E h => ?_) (fun cdv A ou t H vs Q E hG hr h => ?_)
  · obtain ⟨_, _, _, rfl, _⟩ := h; rfl
  have nd := sc_exchange_places.nd
  obtain ⟨a, E, n, rfl, hS, hE, hn, q⟩ := h
  refine ⟨_, (pss_cons (sset 1 nd (pe_callTy (listK K) (by rfl) T.m_list (by decide +kernel) (pa_cons (pv 0) pa_nil)))
      (pss_cons (sset 2 nd (pe_lst pa_nil))
      (pss_cons (ps_for PassesOwn.never rfl (pi_range2 (by rfl) T.m_range (pa_cons pe_int (pa_cons (pe_callB (lenK K) (by rfl) T.m_len PySem.boot_len (pa_cons (pv 1) pa_nil)) pa_nil))) (gset 3 nd)
        (pss_cons (sset 4 nd (pv 3))
      (pss_one (ps_while PassesOwn.never (PW.pt (pw_and (pt_cmpR op_gt (pv 4) pe_int (nomark _)) (pw_and1 (pt_cmpR op_lt (pe_ix (ix_listK K) (pv 1) (pe_op op_sub (pv 4) pe_int) (fun _ _ => rfl)) (pe_ix (ix_listK K) (pv 1) (pv 4) (fun _ _ => rfl)) (nomark _)))))
        (pss_cons (ps_asg (pe_tup (pa_cons (pe_ix (ix_listK K) (pv 1) (pv 4) (fun _ _ => rfl)) (pa_cons (pe_ix (ix_listK K) (pv 1) (pe_op op_sub (pv 4) pe_int) (fun _ _ => rfl)) pa_nil))) (pg_tupK K 2 rfl (pgs_cons (pg_sub (pv 1) (pe_op op_sub (pv 4) pe_int) set_list) (pgs_cons (pg_sub (pv 1) (pv 4) set_list) pgs_nil))))
      (pss_cons (ps_expr (pe_bmK K PySem.F.plainAttrs_list PySem.F.slot_list_append PySem.F.type_list_append mt_append (pv 2) (pa_cons (pv 4) pa_nil)))
      (pss_one (saug 4 nd pe_int ip_sub))))))))
      (pss_one (ps_ret (pe_revLK K (pv 2))))))), ?_⟩
  have hEl : E.length = n := by rw [hE.length_eq]; simp [ascN]
  fail "g"
  intro p np
  fail "g"
  intro z nz
  have sZ := (same_new (o := .lst (E.map V.int)) np).trans (same_new (o := .lst []) nz)
  have hz0 : H z = none := (same_new (o := .lst (E.map V.int)) np).free nz
  have hpz : p ≠ z := ne_of_none upd_same nz
  have hp0 := upd_old (o := .lst []) nz (upd_same (H := H) (a := p) (o := .lst (E.map V.int)))
  fail "g"
  rw [List.length_map, hEl]
  refine ⟨⟨by omega, by omega, by omega, by omega⟩, ?_⟩
  refine forF walk_range (fun i σ' H' => ∃ (l : List Int) (ps : List Nat) (y3 y4 : Option V), σ' = [some (.ref a), some (.ref p), some (.ref z), y3, y4] ∧ Same H H' ∧ H' p = some (.lst (l.map V.int)) ∧ H' z = some (.lst ((pI ps).map V.int)) ∧ Way E l ps ∧ Down l (1 + i) ∧ ps.length ≤ i * 1000 ∧ exU E i = (l, ps))
    ⟨E, [], none, none, rfl, sZ, hp0, upd_same, way_nil E, (fun a b h1 h2 => by omega), by simp, rfl⟩ (fun _ _ _ _ _ => trivial) (fun i σ' H' hi p' => ?_) (fun σ' H' p' => ?_)
  · obtain ⟨l, ps, y3, y4, rfl, s, hP, hZ, hW, hD, hlen, hx⟩ := p'
    have hb0 : bub (1 + i) l ps = exU E (i + 1) := by rw [exU, hx]
    have he : (1 + (i : Int)) = ((1 + i : Nat) : Int) := by omega
    have hie : 1 + i < n := by omega
    rw [he]
    generalize hE1 : 1 + i = e at he hD hie hb0 ⊢
    fail "g"
    refine r_while (fun k σ' H' => ∃ (l : List Int) (ps : List Nat), σ' = [some (.ref a), some (.ref p), some (.ref z), some (.int (e : Int)), some (.int (k : Int))] ∧ Same H H' ∧ H' p = some (.lst (l.map V.int)) ∧ H' z = some (.lst ((pI ps).map V.int)) ∧ Way E l ps ∧ Ins l e k ∧ k ≤ e ∧ ps.length + k ≤ i * 1000 + e ∧ bub k l ps = exU E (i + 1)) e
      ⟨l, ps, rfl, s, hP, hZ, hW, ins_start hD, Nat.le_refl _, by omega, hb0⟩ (fun k σ' H' p' => ?_)
    clear hP hZ hW hD hlen s hx hb0
    obtain ⟨l, ps, rfl, s, hP, hZ, hW, hI, hk, hlen, hb⟩ := p'
    have hll : l.length = n := hW.1.length_eq.trans hEl
    fail "g"
    refine r_dec (fun h0 => ?_) (fun h0 => ?_)
    · have h1 : 1 ≤ k := by omega
      fail "g"
      refine r_ixL (sq hP) (at_map (ns := l) (j := k - 1) (by omega) (by omega)) ?_
      fail "g"
      refine r_ixL (sq hP) (at_map (ns := l) (j := k) rfl (by omega)) ?_
      fail "g"
      refine r_dec (fun h => ?_) (fun h => ?_)
      · refine r_turn ?_
        fail "g"
        refine r_ixL (sq hP) (at_map (ns := l) (j := k) rfl (by omega)) ?_
        fail "g"
        refine r_ixL (sq hP) (at_map (ns := l) (j := k - 1) (by omega) (by omega)) ?_
        fail "g"
        intro T nT
        fail "g"
        have hP8 := upd_old (o := .tup [.int l[k], .int l[k - 1]]) nT hP
        have hZ8 := upd_old (o := .tup [.int l[k], .int l[k - 1]]) nT hZ
        refine r_setL hP8 (n := k - 1) (ix_of (by omega) (by rw [List.length_map]; omega)) ?_
        fail "g"
        refine r_setL upd_same (n := k) (ix_of rfl (by rw [List.length_set, List.length_map]; omega)) ?_
        rw [map_set', map_set']
        have hZ9 := upd_to (o := .lst (((l.set (k - 1) l[k]).set k l[k - 1]).map V.int)) (Ne.symm hpz) (upd_to (o := .lst ((l.set (k - 1) l[k]).map V.int)) (Ne.symm hpz) hZ8)
        fail "g"
        refine r_append hZ9 (by rw [List.length_map, pI_len]; exact size_lt (by omega)) ?_
        have hfin : ∀ Hh : Hp, Hh p = some (.lst (((l.set (k - 1) l[k]).set k l[k - 1]).map V.int)) → upd Hh z (.lst ((pI ps).map V.int ++ [.int (k : Int)])) p = some (.lst ((swp l k l[k] l[k - 1]).map V.int)) := fun Hh h => upd_to hpz h
        fail "g"
        refine ⟨k - 1, by omega, swp l k l[k] l[k - 1], ps ++ [k], by rw [show ((k : Int) - 1) = ((k - 1 : Nat) : Int) by omega]; rfl, same_old (same_old (same_old (s.trans (same_new nT)) np) np) hz0, hfin _ upd_same, by rw [upd_same]; simp [pI], way_step hW h1 (by omega) h, ins_step hI h1 (by omega) hk h, by omega, by rw [List.length_append]; show ps.length + 1 + (k - 1) ≤ _; omega, by rw [← bub_step h1 (by omega) h]; exact hb⟩
      · fail "g"
        exact ⟨l, ps, _, _, rfl, s, hP, hZ, hW, (by have := ins_done hI (by omega) hk (Or.inr ⟨h1, h⟩); rwa [show 1 + (i + 1) = e + 1 by omega]), by omega, by rw [← hb, bub_done (by omega) (Or.inr ⟨h1, h⟩)]⟩
    · fail "g"
      exact ⟨l, ps, _, _, rfl, s, hP, hZ, hW, (by have := ins_done hI (by omega) hk (Or.inl (by omega)); rwa [show 1 + (i + 1) = e + 1 by omega]), by omega, by rw [← hb, bub_done (by omega) (Or.inl (by omega))]⟩
  · obtain ⟨l, ps, y3, y4, rfl, s, hP, hZ, hW, hD, hlen, hx⟩ := p'
    fail "g"
    intro p5 n5
    rw [← List.map_reverse] at *
    have e : (pI ps).reverse = pI ps.reverse := by simp [pI]
    rw [e]
    exact q _ p5 ps.reverse (s.trans (same_new n5)) (s.free n5) upd_same (way_end hW hE fun a b h1 h2 => hD a b h1 (by omega)) (way_liv hW hE fun a b h1 h2 => hD a b h1 (by omega)) (by unfold exM; rw [show E.length - 1 = ((n : Int) - 1).toNat by omega, hx])
def sp_law_pool (K : PySem.W.Frag) : Sp := fun vs H Q _ => ∃ (a : Addr) (ns : List Int) (k : Nat), vs = [.ref a, .int k] ∧ SqL K H a (ns.map V.int) ∧ k ≤ 10 ∧ ∀ H' r, Same H H' → H r = none → Pol H' r 0 → Q (.ref r) H'
theorem ok_law_pool (T : Txt K mg) : FnG P w K mg base CX0 1 T.law_pool_a T.law_pool_d ["script", "at"] (sp_law_pool K) := by
  refine okG T.law_pool_F sc_law_pool (fun vs H Q E h => ?_) (fun cdv A ou t H vs Q E hG hr h => ?_)
  · obtain ⟨_, _, _, rfl, _⟩ := h; rfl
  have nd := sc_law_pool.nd
  obtain ⟨a, ns, k, rfl, hS, hk, q⟩ := h
  refine ⟨_, (pss_cons (sset 2 nd pe_int)
      (C8.pss_cut (ps_if (pt_cmpR op_lt (pv 1) (pe_callB (lenK K) (by rfl) T.m_len PySem.boot_len (pa_cons (pv 0) pa_nil)) (nomark _))
        (pss_one (sset 2 nd (pe_ix (ix_listK K) (pv 0) (pv 1) (fun _ _ => rfl))))
        pss_nil)
      (pss_one (ps_ret (pe_lst (pa_cons (pe_callB (call_max2 rfl) (by rfl) T.m_max (by decide +kernel) (pa_cons pe_int (pa_cons (pe_op op_sub (pe_callB call_abs (by rfl) T.m_abs (by decide +kernel) (pa_cons (pv 2) pa_nil)) (pe_op op_powW pe_int pe_int)) pa_nil))) (pa_cons (pe_op op_add (pe_op op_mod (pv 2) pe_int) (pe_op op_mulW pe_int (pe_op op_add (pv 1) pe_int))) (pa_cons pe_int pa_nil)))))))), ?_⟩
  fail "ww"
  refine r_cut (fun σ' H' => ∃ (c : Int) (_u : Unit), σ' = [some (.ref a), some (.int (k : Int)), some (.int c)] ∧ H' = H) ?_ (fun σ' H' p => ?_)
  · fail "ww"
    rw [List.length_map]
    refine r_dec (fun h => ?_) (fun h => ?_)
    · fail "ww"
      refine r_ixL hS (at_map (ns := ns) (j := k) rfl (by omega)) ?_
      fail "ww"
      exact ⟨_, (), rfl, rfl⟩
    · fail "ww"
      exact ⟨_, (), rfl, rfl⟩
  · obtain ⟨c, _, rfl, rfl⟩ := p
    fail "ww"
    refine r_I (wide_mul (a := 32) (b := 4) (by decide) (by omega) (by decide) (by decide) (by decide)) ?_
    fail "ww"
    refine new_ fun r H1 nr s1 hr => ?_
    refine q _ r s1 nr ⟨_, _, _, hr, by omega, by omega, by omega, by omega, by omega⟩
def sp_law_draw (K : PySem.W.Frag) : Sp := fun vs H Q _ => ∃ (r : Addr) (lim : Int) (m : Nat), vs = [.ref r, .int lim] ∧ Pol H r m ∧ m < 2 ^ 60 ∧ 0 < lim ∧ lim < 2 ^ 200 ∧
  ∀ H' d, 0 ≤ d → d < lim → Sx r H H' → Pol H' r (m + 1) → Q (.int d) H'
theorem ok_law_draw (T : Txt K mg) : FnG P w K mg base CX0 1 T.law_draw_a T.law_draw_d ["pool", "many"] (sp_law_draw K) := by
  refine okG T.law_draw_F sc_law_draw (fun vs H Q E h => ?_) (fun cdv A ou t H vs Q E hG hr h => ?_)
  · obtain ⟨_, _, _, rfl, _⟩ := h; rfl
  have nd := sc_law_draw.nd
  obtain ⟨r, lim, m, rfl, ⟨a, b, c, hR, ha, hb, hb2, hc, hcm⟩, hm, hl, hl2, q⟩ := h
  refine ⟨_, (pss_cons (ps_if (pt_cmpR op_gt (pe_ix (ix_listK K) (pv 0) pe_int (fun _ _ => rfl)) pe_int (nomark _))
        (pss_cons (sset 2 nd (pe_op op_mod (pe_ix (ix_listK K) (pv 0) pe_int (fun _ _ => rfl)) (pv 1)))
      (pss_cons (ps_asg (pe_op op_fdivW (pe_ix (ix_listK K) (pv 0) pe_int (fun _ _ => rfl)) (pv 1)) (pg_sub (pv 0) pe_int set_list))
      (pss_one (ps_ret (pv 2)))))
        pss_nil)
      (pss_cons (ps_asg (pe_op op_add (pe_ix (ix_listK K) (pv 0) pe_int (fun _ _ => rfl)) pe_int) (pg_sub (pv 0) pe_int set_list))
      (pss_cons (sset 3 nd (pe_op op_mod (pe_op op_powW (pe_op op_add (pe_ix (ix_listK K) (pv 0) pe_int (fun _ _ => rfl)) (pe_op op_mulW pe_int (pe_ix (ix_listK K) (pv 0) pe_int (fun _ _ => rfl)))) pe_int) pe_int))
      (pss_cons (sset 3 nd (pe_op op_mod (pe_op op_powW (pe_op op_add (pv 3) (pe_op op_mulW pe_int (pe_ix (ix_listK K) (pv 0) pe_int (fun _ _ => rfl)))) pe_int) pe_int))
      (pss_one (ps_ret (pe_op op_mod (pe_op op_fdivW (pv 3) pe_int) (pv 1)))))))), ?_⟩
  fail "g"
  refine r_dec (fun h1 => ?_) (fun h1 => ?_)
  · fail "g"
    refine r_I (wide_div hl (b := 201) (by omega) (by decide) (by decide)) ?_
    fail "g"
    exact q _ _ (Int.emod_nonneg _ (by omega)) (Int.emod_lt_of_pos _ hl) Sx.put ⟨_, _, _, upd_same, Int.ediv_nonneg ha (by omega), hb, hb2, hc, by omega⟩
  · fail "g"
    refine r_I (wide_mul (a := 30) (b := 61) (by omega) (by omega) (by decide) (by decide) (by decide)) ?_
    fail "g"
    refine r_I (powW (n := 100) (by omega) (by decide) (by decide) (by decide)) ?_
    fail "g"
    have hx := Int.emod_lt_of_pos ((b + 15499751 * (c + 1)) ^ Int.toNat 3) (show (0 : Int) < 162259276829213363391578010288127 by decide)
    have hx0 := Int.emod_nonneg ((b + 15499751 * (c + 1)) ^ Int.toNat 3) (show (162259276829213363391578010288127 : Int) ≠ 0 by decide)
    generalize (b + 15499751 * (c + 1)) ^ Int.toNat 3 % 162259276829213363391578010288127 = x at hx hx0 ⊢
    refine r_I (wide_mul (a := 30) (b := 61) (by omega) (by omega) (by decide) (by decide) (by decide)) ?_
    fail "g"
    refine r_I (pow5 (n := 120) (by omega) (by decide) (by decide) (by decide)) ?_
    fail "g"
    refine r_I ⟨by decide, by decide +kernel⟩ ?_
    fail "g"
    exact q _ _ (Int.emod_nonneg _ (by omega)) (Int.emod_lt_of_pos _ hl) Sx.put ⟨_, _, _, upd_same, ha, hb, hb2, by omega, by omega⟩
def sp_law_ran (K : PySem.W.Frag) : Sp := fun vs H Q _ => ∃ (a b : Addr) (ns : List Int) (ts : List Addr) (cs : List Cmd), vs = [.ref a, .ref b] ∧ (SqL K H a (ns.map V.int) ∨ SqT K H a (ns.map V.int)) ∧ SqL K H b (ts.map V.ref) ∧ Cm H ts cs ∧ ns.length ≤ 1000 ∧ Fits ns.length cs ∧
  ∀ (H' : Hp) (p : Addr), Same H H' → H p = none → H' p = some (.lst ((runM ns cs).map V.int)) → Q (.ref p) H'
theorem ok_law_ran (T : Txt K mg) : FnG P w K mg base CX0 1 T.law_ran_a T.law_ran_d ["line_here", "steps_here"] (sp_law_ran K) := by
  refine okG T.law_ran_F sc_law_ran (fun vs H Q E h => ?_) (fun cdv A ou t H vs Q E hG hr h => ?_)
  · obtain ⟨_, _, _, _, _, rfl, _⟩ := h; rfl
  have nd := sc_law_ran.nd
  obtain ⟨a, b, ns, ts, cs, rfl, hS, hB, hC, hn2, hF, q⟩ := h
  refine ⟨_, (pss_cons (sset 2 nd (pe_callTy (listK K) (by rfl) T.m_list (by decide +kernel) (pa_cons (pv 0) pa_nil)))
      (pss_cons (ps_for PassesOwn.never rfl (pi_listK K (pv 1)) (pg_tupK K 2 rfl (pgs_cons (gset 3 nd) (pgs_cons (gset 4 nd) pgs_nil)))
        (pss_one (sset 2 nd (pe_op op_cat (pe_op op_cat (pe_slice (sl_listK K) (pv 2) po_none (po_some (pe_op op_sub (pv 3) pe_int))) (pe_callB (sortedK K) (by rfl) T.m_sorted (by decide +kernel) (pa_cons (pe_slice (sl_listK K) (pv 2) (po_some (pe_op op_sub (pv 3) pe_int)) (po_some (pv 4))) pa_nil))) (pe_slice (sl_listK K) (pv 2) (po_some (pv 4)) po_none)))))
      (pss_one (ps_ret (pv 2))))), ?_⟩
  fail "ww"
  refine n_listOf2 hS (new_ fun p H1 np s1 hp => ?_)
  fail "ww"
  refine forA (walk_list (xs := ts.map V.ref)) (fun i σ' G => ∃ (p : Addr) (y2 y3 : Option V), σ' = [some (.ref a), some (.ref b), some (.ref p), y2, y3] ∧ Same H G ∧ H p = none ∧ G p = some (.lst ((runM ns (cs.take i)).map V.int)))
    ⟨p, none, none, rfl, s1, np, hp⟩ (fun i σ' G _ p' => ?_) (fun i σ' G hi p' => ?_) (fun σ' G p' => ?_)
  · obtain ⟨_, _, _, _, s, _⟩ := p'; exact s.seq hB
  · obtain ⟨p, y2, y3, rfl, s, hp0, hP⟩ := p'
    have hi' : i < cs.length := by rw [← hC.len]; simpa using hi
    obtain ⟨t0, et, ht⟩ := hC.idx hi'
    have e1 : (ts.map V.ref)[i] = .ref t0 := by
      have : (ts.map V.ref)[i]? = some (.ref t0) := by rw [List.getElem?_map, et]; rfl
      rw [List.getElem?_eq_getElem hi] at this
      exact Option.some.inj this
    rw [e1]
    have hc := hF cs[i] (List.getElem_mem hi')
    have hrl : (runM ns (cs.take i)).length = ns.length := runM_len hF.take
    rw [take_one hi', runM_snoc]
    generalize runM ns (cs.take i) = L at hP hrl ⊢
    generalize cs[i] = c at hc ht ⊢
    refine r_gtup (sqT (s _ _ ht)) rfl ?_
    fail "ww"
    refine n_slT (sq hP) (a := c.1 - 1) (by omega) (new_ fun q1 G1 m1 t1 g1 => ?_)
    fail "ww"
    refine n_slM (ns := L) (a := c.1 - 1) (c := c.2) (sq (t1 _ _ hP)) (by omega) rfl (new_ fun q2 G2 m2 t2 g2 => ?_)
    fail "ww"
    refine n_sorted (sq g2) (new_ fun q3 G3 m3 t3 g3 => ?_)
    have t13 := t1.trans (t2.trans t3)
    refine n_catI ((t2.trans t3) _ _ g1) g3 (by rw [srt_len, List.length_take, List.length_take, List.length_drop]; exact size_le (by omega)) (new_ fun q4 G4 m4 t4 g4 => ?_)
    fail "ww"
    refine n_slF (sq ((t13.trans t4) _ _ hP)) (a := c.2) rfl (new_ fun q5 G5 m5 t5 g5 => ?_)
    refine n_catI (t5 _ _ g4) g5 (by rw [List.length_append, srt_len, List.length_take, List.length_take, List.length_drop, List.length_drop]; exact size_le (by omega)) (new_ fun q6 G6 m6 t6 g6 => ?_)
    have u := s.trans ((t13.trans t4).trans t5)
    exact ⟨q6, _, _, rfl, u.trans t6, u.free m6, g6⟩
  · obtain ⟨p, y2, y3, rfl, s, hp0, hP⟩ := p'
    fail "ww"
    rw [List.take_of_length_le (by rw [List.length_map, hC.len]; exact Nat.le_refl _)] at hP
    exact q _ _ s hp0 hP
def sp_law_falling (K : PySem.W.Frag) : Sp := fun vs H Q _ => ∃ (n : Nat), vs = [.int n] ∧ n ≤ 1000 ∧ ∀ (H' : Hp) (p : Addr), Same H H' → H p = none → H' p = some (.lst ((desc n).map V.int)) → Q (.ref p) H'
theorem ok_law_falling (T : Txt K mg) : FnG P w K mg base CX0 1 T.law_falling_a T.law_falling_d ["wide"] (sp_law_falling K) := by
  refine okG T.law_falling_F sc_law_falling (fun vs H Q E h => ?_) (fun cdv A ou t H vs Q E hG hr h => ?_)
  · obtain ⟨_, rfl, _⟩ := h; rfl
  have nd := sc_law_falling.nd
  obtain ⟨n, rfl, hn, q⟩ := h
  refine ⟨_, (pss_one (ps_ret (pe_listRg3 rfl (by rfl) T.m_list (by rfl) T.m_range (pa_cons (pv 0) (pa_cons pe_int (pa_cons (pe_un un_neg pe_int) pa_nil)))))), ?_⟩
  fail "g"
  refine ⟨_, _, _, _, rfl, RgC.neg (by omega) (by omega) (by omega) (by omega), by omega, fun p np => ?_⟩
  refine q _ p (same_new np) np (upd_same.trans ?_)
  have e : rg3V (n : Int) (-1) ((n : Int) - 0).toNat = (desc n).map V.int := by
    rw [show ((n : Int) - 0).toNat = n by omega]
    unfold rg3V desc
    rw [List.map_map]
    refine List.map_congr_left fun k _ => ?_
    show V.int ((n : Int) + (k : Nat) * (-1)) = V.int ((n : Int) - (k : Nat))
    rw [show ((n : Int) + (k : Nat) * (-1)) = (n : Int) - (k : Nat) by omega]
  rw [e]
def sp_law_every (K : PySem.W.Frag) : Sp := fun vs H Q _ => ∃ (n : Nat), vs = [.int n] ∧ 1 ≤ n ∧ n ≤ 6 ∧ ∀ (H' : Hp) (p : Addr) (as : List Addr), Same H H' → H p = none → H' p = some (.lst (as.map V.ref)) → Rws H' as (arrM n n) → (∀ t ∈ as, H t = none) → Q (.ref p) H'
theorem ok_law_every (T : Txt K mg) : FnG P w K mg base CX0 1 T.law_every_a T.law_every_d ["wide"] (sp_law_every K) := by
  refine okG T.law_every_F sc_law_every (fun vs H Q E h => ?_) (fun cdv A ou t H vs Q E hG hr h => ?_)
  · obtain ⟨_, rfl, _⟩ := h; rfl
  have nd := sc_law_every.nd
  obtain ⟨n, rfl, hn0, hn, q⟩ := h
  refine ⟨_, (pss_cons (sset 1 nd (pe_lst (pa_cons (pe_lst pa_nil) pa_nil)))
      (pss_cons (ps_for PassesOwn.never rfl (pi_range1 (by rfl) T.m_range (pa_cons (pv 0) pa_nil)) (gset 2 nd)
        (pss_cons (sset 3 nd (pe_lst pa_nil))
      (pss_cons (ps_for PassesOwn.never rfl (pi_listK K (pv 1)) (gset 4 nd)
        (pss_one (ps_expr (pe_bmK K PySem.F.plainAttrs_list PySem.F.slot_list_extend PySem.F.type_list_extend mt_extend (pv 3) (pa_cons (pe_lc (own := [("value", 5)]) (hc := rfl) (hN := nd) (hi := (pi_range2 (by rfl) T.m_range (pa_cons pe_int (pa_cons (pe_op op_add (pv 0) pe_int) pa_nil)))) (ok := blkOk_by (by rfl)) (hg := fun _ _ _ _ _ => (gset 5 nd)) (ht := (fun _ _ _ _ _ => pts_one (pt_cmpR (notInK K) (pv 5) (pv 4) (by rfl)))) (he := fun _ _ _ _ _ => (pe_op op_cat (pv 4) (pe_lst (pa_cons (pv 5) pa_nil))))) pa_nil)))))
      (pss_one (sset 1 nd (pv 3))))))
      (pss_one (ps_ret (pv 1))))), ?_⟩
  have hpow : ∀ k, k ≤ n → n ^ k ≤ 46656 := fun k hk => by
    have : n = 1 ∨ n = 2 ∨ n = 3 ∨ n = 4 ∨ n = 5 ∨ n = 6 := by omega
    have h2 := Nat.pow_le_pow_right hn0 hk
    rcases this with e | e | e | e | e | e <;> subst e <;> exact Nat.le_trans h2 (by decide)
  fail "g"
  intro z nz
  have hz := upd_same (H := H) (a := z) (o := .lst [])
  have sz := same_new (o := .lst []) nz
  fail "g"
  intro p np
  have hp0 : H p = none := sz.free np
  have hz' := upd_old (o := .lst [.ref z]) np hz
  have hp := upd_same (H := upd H z (.lst [])) (a := p) (o := .lst [.ref z])
  have sp := sz.trans (same_new (o := .lst [.ref z]) np)
  have hzp : z ≠ p := ne_of_none hz np
  generalize upd (upd H z (.lst [])) p (.lst [.ref z]) = H1 at hz' hp sp ⊢
  fail "g"
  refine ⟨by omega, by omega, ?_⟩
  refine forF walk_range (fun i σ' H' => ∃ (p : Addr) (as : List Addr) (y2 y3 y4 y5 : Option V), σ' = [some (.int n), some (.ref p), y2, y3, y4, y5] ∧ Same H H' ∧ H p = none ∧ (∀ t ∈ as, H t = none ∧ t ≠ p) ∧ H' p = some (.lst (as.map V.ref)) ∧ Rws H' as (arrM n i))
    ⟨p, [z], none, none, none, none, rfl, sp, hp0, (fun t ht => by rw [List.mem_singleton.mp ht]; exact ⟨nz, hzp⟩), hp, Rws.one (l := []) hz'⟩ (fun _ _ _ _ _ => trivial) (fun i σ' H' hi p' => ?_) (fun σ' H' p' => ?_)
  · clear hp0 hz' hp sp hzp np sz hz nz
    obtain ⟨p, as, y2, y3, y4, y5, rfl, s, hp0, hfr, hp, hA⟩ := p'
    have hi' : i < n := by omega
    fail "g"
    intro z nz
    have sz := same_new (o := .lst []) nz
    have hz := upd_same (H := H') (a := z) (o := .lst [])
    have hp1 := sz _ _ hp
    have hz0 := s.free nz
    fail "g"
    refine forA (walk_list (xs := as.map V.ref)) (fun k σ' Hk => ∃ (bs : List Addr) (y4 y5 : Option V), σ' = [some (.int n), some (.ref p), some (.int (0 + (i : Int))), some (.ref z), y4, y5] ∧ Same H' Hk ∧ (∀ t ∈ bs, H' t = none ∧ t ≠ z) ∧ Hk z = some (.lst (bs.map V.ref)) ∧ Rws Hk bs (((arrM n i).take k).flatMap fun c => ((ascN n).filter fun v => !decide (v ∈ c)).map fun v => c ++ [v]))
      ⟨[], y4, y5, rfl, sz, (fun t ht => by cases ht), hz, Rws.nil⟩ (fun k σ' Hk _ p => ?_) (fun k σ' Hk hk p => ?_) (fun σ' Hk p => ?_)
    · obtain ⟨_, _, _, _, s, _⟩ := p; exact sq (s _ _ hp)
    · clear hz hp1 sz
      obtain ⟨bs, y4, y5, rfl, sk, hfb, hz, hB⟩ := p
      have hk' : k < (arrM n i).length := by rw [← hA.len]; simpa using hk
      obtain ⟨t0, et, ht⟩ := hA.idx hk'
      have e1 : (as.map V.ref)[k] = .ref t0 := by
        have : (as.map V.ref)[k]? = some (.ref t0) := by rw [List.getElem?_map, et]; rfl
        rw [List.getElem?_eq_getElem hk] at this
        exact Option.some.inj this
      rw [e1]
      have ht1 := sk _ _ ht
      have hll : (arrM n i)[k].length = i := (arr_mem (List.getElem_mem hk')).1
      have hbl : bs.length ≤ 46656 * 6 := by
        rw [hB.len]
        have gen : ∀ ls : List (List Int), (ls.flatMap fun c => ((ascN n).filter fun v => !decide (v ∈ c)).map fun v => c ++ [v]).length ≤ ls.length * n := fun ls => by
          induction ls with
          | nil => simp
          | cons c r ih =>
            rw [List.flatMap_cons, List.length_append, List.length_cons, Nat.succ_mul, List.length_map]
            have h1 : ((ascN n).filter fun v => !decide (v ∈ c)).length ≤ n := Nat.le_trans (List.length_filter_le _ _) (by simp [ascN])
            omega
        have h3 : ((arrM n i).take k).length ≤ 46656 := by
          have := arr_len (n := n) i
          have := hpow i (by omega)
          rw [List.length_take]; omega
        exact Nat.le_trans (gen _) (Nat.mul_le_mul h3 hn)
      rw [take_one hk', List.flatMap_append, show [(arrM n i)[k]].flatMap (fun c => ((ascN n).filter fun v => !decide (v ∈ c)).map fun v => c ++ [v]) = ((ascN n).filter fun v => !decide (v ∈ (arrM n i)[k])).map (fun v => (arrM n i)[k] ++ [v]) by simp]
      generalize ((arrM n i).take k).flatMap (fun c => ((ascN n).filter fun v => !decide (v ∈ c)).map fun v => c ++ [v]) = done at hB ⊢
      generalize (arrM n i)[k] = l at ht ht1 hll ⊢
      fail "g"
      have haN : (ascN n).length = n := by simp [ascN]
      refine ⟨by omega, fun D nD => ?_⟩
      refine lc_it walk_range (fun j Hh => ∃ ds : List Addr, Hh D = some (.lst (ds.map V.ref)) ∧ Same Hk Hh ∧ (∀ t ∈ ds, Hk t = none ∧ t ≠ D) ∧ Rws Hh ds ((((ascN n).take j).filter fun v => !decide (v ∈ l)).map fun v => l ++ [v])) ?_ (fun _ _ _ _ => trivial) (fun j x Hh Hh' hj p y => ?_) (fun Hh p => ?_)
      · exact ⟨[], upd_same, same_new nD, (fun t ht => by cases ht), Rws.nil⟩
      · obtain ⟨rfl, rfl⟩ := y
        obtain ⟨ds, hD, sd, hfd, hR⟩ := p
        have hj' : j < (ascN n).length := by omega
        have hel : (ascN n)[j] = 1 + (j : Int) := by simp [ascN]
        have htd := sd _ _ ht1
        have hdl : ds.length ≤ 6 := by
          rw [hR.len, List.length_map]
          exact Nat.le_trans (List.length_filter_le _ _) (by rw [List.length_take]; omega)
        have hinV : inV (.int (1 + (j : Int))) (l.map V.int) = decide ((1 + (j : Int)) ∈ l) := by
          unfold inV
          rw [List.any_map]
          by_cases hm : (1 + (j : Int)) ∈ l
          · rw [decide_eq_true hm, List.any_eq_true]
            exact ⟨_, hm, by show (_ == _) = true; simp⟩
          · rw [decide_eq_false hm, List.any_eq_false]
            intro x hx
            show ¬ (x == 1 + (j : Int)) = true
            intro e
            exact hm (eq_of_beq e ▸ hx)
        fail "g"
        refine ⟨rfl, ?_⟩
        fail "g"
        refine ⟨t0, _, rfl, .inl (sq htd), rfl, by rw [List.all_map, List.all_eq_true]; exact fun x _ => rfl, ?_⟩
        rw [hinV, take_one hj', List.filter_append, List.map_append, hel]
        refine ⟨_, rfl, ?_⟩
        by_cases hm : (1 + (j : Int)) ∈ l
        · rw [decide_eq_true hm]
          refine r_notF' ?_
          refine ⟨ds, hD, sd, hfd, ?_⟩
          rw [show ([1 + (j : Int)] : List Int).filter (fun v => !decide (v ∈ l)) = [] by simp [hm], List.map_nil, List.append_nil]
          exact hR
        · rw [decide_eq_false hm]
          refine r_notT' ?_
          fail "g"
          intro a2 n2
          have q2 := same_new (o := .lst [.int (1 + (j : Int))]) n2
          have ha2 := upd_same (H := Hh') (a := a2) (o := .lst [.int (1 + (j : Int))])
          have ht2 := q2 _ _ htd
          generalize upd Hh' a2 (.lst [.int (1 + (j : Int))]) = G2 at q2 ha2 ht2 ⊢
          refine r_cat ht2 ha2 (by rw [List.length_map]; exact size_le (by show _ + 1 ≤ _; omega)) ?_
          intro a3 n3
          rw [map_snoc] at *
          have q3 := q2.trans (same_new (o := .lst ((l ++ [1 + (j : Int)]).map V.int)) n3)
          have ha3 := upd_same (H := G2) (a := a3) (o := .lst ((l ++ [1 + (j : Int)]).map V.int))
          have hn3 : Hh' a3 = none := q2.free n3
          have h3D : a3 ≠ D := (ne_of_none hD hn3).symm
          generalize upd G2 a3 (.lst ((l ++ [1 + (j : Int)]).map V.int)) = G3 at q3 ha3 ⊢
          refine ⟨_, q3 _ _ hD, by rw [List.length_map]; exact size_lt (by omega), ds ++ [a3], by rw [upd_same]; simp, same_old (sd.trans q3) nD, fun t ht => ?_, ?_⟩
          · rcases List.mem_append.mp ht with z | z
            · exact hfd t z
            · rw [List.mem_singleton.mp z]; exact ⟨sd.free hn3, h3D⟩
          · rw [show (([1 + (j : Int)] : List Int).filter (fun v => !decide (v ∈ l))).map (fun v => l ++ [v]) = [l ++ [1 + (j : Int)]] by simp [hm]]
            refine (Rws.app (hR.same q3) (Rws.one ha3)).upd_ fun hm => ?_
            rcases List.mem_append.mp hm with z | z
            · exact (hfd _ z).2 rfl
            · exact h3D (List.mem_singleton.mp z).symm
      · obtain ⟨ds, hD, sd, hfd, hR⟩ := p
        have hz' := sd _ _ hz
        rw [List.take_of_length_le (l := ascN n) (by omega)] at hR
        have hdl : ds.length ≤ 6 := by
          rw [hR.len, List.length_map]
          exact Nat.le_trans (List.length_filter_le _ _) (by omega)
        fail "g"
        refine r_extend hz' hD (by rw [List.length_map, List.length_map]; exact size_le (by omega)) ?_
        rw [← List.map_append]
        refine ⟨bs ++ ds, _, _, rfl, same_old (sk.trans sd) nz, fun t ht => ?_, upd_same, ?_⟩
        · rcases List.mem_append.mp ht with y | y
          · exact hfb t y
          · exact ⟨sk.free (hfd t y).1, (ne_of_none hz (hfd t y).1).symm⟩
        · refine (Rws.app (hB.same sd) hR).upd_ fun hm => ?_
          rcases List.mem_append.mp hm with y | y
          · exact (hfb _ y).2 rfl
          · exact (ne_of_none hz (hfd _ y).1) rfl
    · obtain ⟨bs, y4, y5, rfl, sk, hfb, hz, hB⟩ := p
      fail "g"
      rw [List.take_of_length_le (l := arrM n i) (by rw [List.length_map, hA.len]; exact Nat.le_refl _)] at hB
      exact ⟨z, bs, _, _, _, _, rfl, s.trans sk, hz0, (fun t ht => ⟨s.free (hfb t ht).1, (hfb t ht).2⟩), hz, hB⟩
  · obtain ⟨p, as, y2, y3, y4, y5, rfl, s, hp0, hfr, hp, hA⟩ := p'
    rw [Int.toNat_natCast] at hA
    fail "g"
    exact q _ p as s hp0 hp hA fun t ht => (hfr t ht).1
def sp_check_sized_script (K : PySem.W.Frag) : Sp := fun vs H Q _ => ∃ (n : Nat) (b : Addr) (ts : List Addr) (cs : List Cmd), vs = [.int n, .ref b] ∧ 1 ≤ n ∧ SqL K H b (ts.map V.ref) ∧ Cm H ts cs ∧ Fits n cs ∧ ∀ H', Same H H' → Q .non H'
theorem ok_check_sized_script (T : Txt K mg) : FnG P w K mg base CX0 2 T.check_sized_script_a T.check_sized_script_d ["size", "commands"] (sp_check_sized_script K) := by
  refine okG T.check_sized_script_F sc_check_sized_script (fun vs H Q E h => ?_) (fun cdv A ou t H vs Q E hG hr h => ?_)
  · obtain ⟨_, _, _, _, rfl, _⟩ := h; rfl
  have nd := sc_check_sized_script.nd
  obtain ⟨n, b, ts, cs, rfl, hn, hS, hC, hF, q⟩ := h
  refine ⟨_, (pss_cons (ps_expr (pe_callG (ok_check_size T) hG (hr.mono (by decide)) (by rfl) T.check_size_g T.check_size_F.kp T.check_size_b .nil pass0 (pa_cons (pv 0) pa_nil)))
      (pss_one (ps_expr (pe_callG (ok_check_script T) hG (hr.mono (by decide)) (by rfl) T.check_script_g T.check_script_F.kp T.check_script_b .nil pass0 (pa_cons (pv 0) (pa_cons (pv 1) pa_nil)))))), ?_⟩
  fail "g"
  refine ⟨n, rfl, hn, ?_⟩
  fail "g"
  refine ⟨n, b, ts, cs, rfl, hS, hC, hF, fun H' s => ?_⟩
  fail "g"
  exact q _ s
def sp_greatest_before (K : PySem.W.Frag) : Sp := fun vs H Q _ => ∃ (b a : Addr) (E : List Int) (n : Nat) (ts : List Addr) (cs : List Cmd), vs = [.ref b, .ref a] ∧ SqL K H b (ts.map V.ref) ∧ SqL K H a (E.map V.int) ∧ E.Perm (ascN n) ∧ 1 ≤ n ∧ n ≤ 1000 ∧ Cm H ts cs ∧ Fits n cs ∧
  ∀ (H' : Hp) (p : Addr), Same H H' → H p = none → H' p = some (.lst ((backM cs E).map V.int)) → Q (.ref p) H'
theorem ok_greatest_before (T : Txt K mg) : FnG P w K mg base CX0 2 T.greatest_before_a T.greatest_before_d ["commands", "row"] (sp_greatest_before K) := by
  refine okG T.greatest_before_F sc_greatest_before (fun vs H Q E h => ?_) (fun cdv A ou t H vs Q E hG hr h => ?_)
  · obtain ⟨_, _, _, _, _, _, rfl, _⟩ := h; rfl
  have nd := sc_greatest_before.nd
  obtain ⟨b, a, E, n, ts, cs, rfl, hB, hA, hE, hn, hn2, hC, hF, q⟩ := h
  refine ⟨_, (pss_cons (ps_expr (pe_callG (ok_check_arrangement T) hG (hr.mono (by decide)) (by rfl) T.check_arrangement_g T.check_arrangement_F.kp T.check_arrangement_b .nil pass0 (pa_cons (pv 1) pa_nil)))
      (pss_cons (ps_expr (pe_callG (ok_check_script T) hG (hr.mono (by decide)) (by rfl) T.check_script_g T.check_script_F.kp T.check_script_b .nil pass0 (pa_cons (pe_callB (lenK K) (by rfl) T.m_len PySem.boot_len (pa_cons (pv 1) pa_nil)) (pa_cons (pv 0) pa_nil))))
      (pss_cons (sset 2 nd (pe_callTy (listK K) (by rfl) T.m_list (by decide +kernel) (pa_cons (pv 1) pa_nil)))
      (pss_cons (ps_for PassesOwn.never rfl (pi_reversedK K (by rfl) T.m_reversed (pa_cons (pv 0) pa_nil)) (pg_tupK K 2 rfl (pgs_cons (gset 3 nd) (pgs_cons (gset 4 nd) pgs_nil)))
        (pss_one (ps_asg (pe_callBK (sortedRK K) (by rfl) T.m_sorted (by decide +kernel) (pa_cons (pe_slice (sl_listK K) (pv 2) (po_some (pe_op op_sub (pv 3) pe_int)) (po_some (pv 4))) pa_nil) (pk_cons pe_bl pk_nil)) (pg_slc (pv 2) (po_some (pe_op op_sub (pv 3) pe_int)) (po_some (pv 4))))))
      (pss_one (ps_ret (pv 2))))))), ?_⟩
  have hEl : E.length = n := by rw [hE.length_eq]; simp [ascN]
  fail "g"
  refine ⟨a, E, rfl, hA, arr_asc hE, by omega, fun H1 s1 => ?_⟩
  have hA1 := s1.seq hA
  have hB1 := s1.seq hB
  fail "g"
  rw [List.length_map, hEl]
  refine ⟨n, b, ts, cs, rfl, hB1, hC.same s1, hF, fun H2 s2 => ?_⟩
  have s12 := s1.trans s2
  have hA2 := s12.seq hA
  have hB2 := s12.seq hB
  have hC2 := hC.same s12
  fail "g"
  intro p np
  have np0 := s12.free np
  have s3 := s12.trans (same_new (o := .lst (E.map V.int)) np)
  have hB3 := s3.seq hB
  fail "g"
  refine forI (walk_rev (xs := ts.map V.ref)) (fun i σ' H' => ∃ (y3 y4 : Option V), σ' = [some (.ref b), some (.ref a), some (.ref p), y3, y4] ∧ Same H H' ∧ H' p = some (.lst ((backR (cs.reverse.take i) E).map V.int)))
    ⟨none, none, rfl, s3, upd_same⟩ (fun i σ' H' _ q => ?_) (fun i x σ' H' H2' hi q y => ?_) (fun σ' H' q' => ?_)
  · obtain ⟨_, _, _, s, _⟩ := q; exact s.seq hB
  · obtain ⟨rfl, ey⟩ := y
    obtain ⟨y3, y4, rfl, s, hP⟩ := q
    have htl : ts.length = cs.length := hC.len
    have hi' : i < cs.length := by rw [← hC.len]; simpa using hi
    have hj : cs.length - 1 - i < cs.length := by omega
    obtain ⟨t0, et, ht⟩ := hC.idx hj
    have e1 : x = .ref t0 := by
      rw [List.length_map, htl, List.getElem?_map, et] at ey
      exact (Option.some.inj ey).symm
    subst e1
    have hir : i < cs.reverse.length := by rw [List.length_reverse]; exact hi'
    have er : cs.reverse[i] = cs[cs.length - 1 - i] := List.getElem_reverse ..
    have hc := hF _ (List.getElem_mem hj)
    have ht1 := s _ _ ht
    have hft : Fits E.length (cs.reverse.take i) := by rw [hEl]; exact hF.rev.take
    have hlenP : (backR (cs.reverse.take i) E).length = n := by rw [(backR_perm _ _ hft).length_eq, hEl]
    rw [take_one hir, backR_snoc, er]
    generalize backR (cs.reverse.take i) E = cur at hP hlenP ⊢
    generalize cs[cs.length - 1 - i] = c at hc ht ht1 ⊢
    fail "g"
    intro l0 n0
    rw [cut_mid (a := c.1 - 1) (b := c.2) (by omega) rfl (by rw [List.length_map]; omega), ← List.map_drop, ← List.map_take] at *
    fail "g"
    refine ⟨l0, _, rfl, rfl, sq upd_same, fun ns' l1 hperm hup n1 => ?_⟩
    have e2 : ns' = (srt ((cur.drop (c.1 - 1)).take (c.2 - (c.1 - 1)))).reverse := down_is hperm hup
    subst e2
    fail "g"
    have hP2 := upd_old (o := .lst (((srt ((cur.drop (c.1 - 1)).take (c.2 - (c.1 - 1)))).reverse).map V.int)) n1 (upd_old (o := .lst (((cur.drop (c.1 - 1)).take (c.2 - (c.1 - 1))).map V.int)) n0 hP)
    refine ⟨p, l1, _, _, _, _, rfl, rfl, rfl, rfl, hP2, upd_same, ne_of_none (upd_old n0 hP) n1, by omega, by omega, by rw [List.length_map]; omega, ?_, ?_⟩
    · rw [List.length_map, List.length_map, List.length_reverse, srt_len, List.length_take, List.length_drop]; exact size_le (by omega)
    · refine ⟨_, _, rfl, same_old ((s.trans (same_new n0)).trans (same_new n1)) np0, ?_⟩
      rw [upd_same]
      rw [show ((c.1 : Nat) - 1 : Int).toNat = c.1 - 1 by omega, show ((c.2 : Nat) : Int).toNat = c.2 by omega, ← List.map_take, ← List.map_drop, ← List.map_append, ← List.map_append]
      rfl
  · obtain ⟨y3, y4, rfl, s, hP⟩ := q'
    fail "g"
    rw [List.take_of_length_le (by rw [List.length_map, hC.len, List.length_reverse]; exact Nat.le_refl _)] at hP
    exact q _ _ s np0 hP
def sp_exchanges (K : PySem.W.Frag) : Sp := fun vs H Q _ => ∃ (a : Addr) (E : List Int), vs = [.ref a] ∧ SqL K H a (E.map V.int) ∧ E.Perm (ascN E.length) ∧ 1 ≤ E.length ∧ E.length ≤ 1000 ∧
  ∀ (H' : Hp) (p : Addr) (ts : List Addr) (ps : List Nat), Same H H' → H p = none → (∀ t ∈ ts, H t = none) → H' p = some (.lst (ts.map V.ref)) → Cm H' ts (ps.map fun k => (k, k + 1)) → Stand E ps → Liv (desc E.length) ps → ps.length ≤ 1000000 → ps = exM E → Q (.ref p) H'
theorem ok_exchanges (T : Txt K mg) : FnG P w K mg base CX0 2 T.exchanges_a T.exchanges_d ["wanted"] (sp_exchanges K) := by
  refine okG T.exchanges_F sc_exchanges (fun vs H Q E h => ?_) (fun cdv A ou t H vs Q E hG hr h => ?_)
  · obtain ⟨_, _, rfl, _⟩ := h; rfl
  have nd := sc_exchanges.nd
  obtain ⟨a, E, rfl, hA, hE, hn, hn2, q⟩ := h
  refine ⟨_, (pss_cons (ps_expr (pe_callG (ok_check_arrangement T) hG (hr.mono (by decide)) (by rfl) T.check_arrangement_g T.check_arrangement_F.kp T.check_arrangement_b .nil pass0 (pa_cons (pv 0) pa_nil)))
      (pss_one (ps_ret (pe_lc (own := [("place", 1)]) (hc := rfl) (hN := nd) (hi := (pi_listK K (pe_callG (ok_exchange_places T) hG (hr.mono (by decide)) (by rfl) T.exchange_places_g T.exchange_places_F.kp T.exchange_places_b .nil pass0 (pa_cons (pv 0) pa_nil)))) (ok := blkOk_by (by rfl)) (hg := fun _ _ _ _ _ => (gset 1 nd)) (ht := (fun _ _ _ _ _ => pts_nil)) (he := fun _ _ _ _ _ => (pe_tup (pa_cons (pv 1) (pa_cons (pe_op op_add (pv 1) pe_int) pa_nil)))))))), ?_⟩
  fail "g"
  refine ⟨a, E, rfl, hA, arr_asc hE, by omega, fun H1 s1 => ?_⟩
  fail "g"
  refine ⟨a, E, E.length, rfl, s1.seq hA, hE, hn2, fun H2 z ps s2 nz hZ hSt hLv hEx => ?_⟩
  fail "g"
  intro D nD
  have hcnt := (asc_count hE hSt hLv).2
  have hsq : E.length * E.length ≤ 1000 * 1000 := Nat.mul_le_mul hn2 hn2
  have hpl : ps.length ≤ 1000000 := by omega
  refine lc_it (walk_list (xs := (pI ps).map V.int)) (fun i Hx => ∃ ts : List Addr, Same H2 Hx ∧ Hx D = some (.lst (ts.map V.ref)) ∧ Cm Hx ts ((ps.take i).map fun k => (k, k + 1)) ∧ ∀ t ∈ ts, H2 t = none ∧ t ≠ D)
    ⟨[], same_new nD, upd_same, Cm.nil, fun t ht => by cases ht⟩ (fun i Hx _ p => ?_) (fun i x HA HB hi p y => ?_) (fun HA p => ?_)
  · obtain ⟨_, s, _⟩ := p; exact s.seq (sq hZ)
  · obtain ⟨ts, s, hD, hC, hf⟩ := p
    obtain ⟨rfl, e⟩ := y
    have hi' : i < ps.length := by simpa [pI] using hi
    simp only [pI, List.getElem?_map, List.getElem?_eq_getElem hi'] at e
    cases e
    fail "g"
    refine ⟨rfl, ?_⟩
    fail "g"
    intro T1 nT1
    have hT1 : HB T1 = none := nT1
    have hD1 := upd_old (o := .tup [.int (ps[i] : Nat), .int ((ps[i] : Nat) + 1 : Int)]) nT1 hD
    have hl : ts.length = i := by rw [hC.len, List.length_map, List.length_take]; omega
    refine ⟨_, hD1, by rw [List.length_map, hl]; exact size_lt (by omega), ts ++ [T1], same_old (s.trans (same_new nT1)) nD, by rw [upd_same, List.map_append]; rfl, ?_, fun t ht => ?_⟩
    · rw [take_one hi', List.map_append]
      refine ((hC.same (same_new nT1)).put hD1).snoc ?_
      exact upd_to (ne_of_none hD hT1).symm upd_same
    · rcases List.mem_append.mp ht with h | h
      · exact hf t h
      · rw [List.mem_singleton.mp h]
        exact ⟨gone s hT1, (ne_of_none hD hT1).symm⟩
  · obtain ⟨ts, s, hD, hC, hf⟩ := p
    rw [List.length_map, pI_len, List.take_of_length_le (Nat.le_refl _)] at hC
    exact q HA D ts ps ((s1.trans s2).trans s) (gone (s1.trans s2) nD) (fun t ht => gone (s1.trans s2) (hf t ht).1) hD hC hSt hLv hpl hEx
def sp_law_steps (K : PySem.W.Frag) : Sp := fun vs H Q _ => ∃ (r : Addr) (wide most m : Nat), vs = [.ref r, .int wide, .int most] ∧ Pol H r m ∧ 1 ≤ wide ∧ wide ≤ 1000 ∧ most ≤ 10000 ∧ m < 2 ^ 50 ∧
  ∀ (H' : Hp) (p : Addr) (ts : List Addr) (cs : List Cmd), Sx r H H' → H p = none → Pol H' r (m + 3 + 4 * most) → H' p = some (.lst (ts.map V.ref)) → Cm H' ts cs → Fits wide cs → cs.length ≤ most → Q (.ref p) H'
theorem ok_law_steps (T : Txt K mg) : FnG P w K mg base CX0 2 T.law_steps_a T.law_steps_d ["pool", "wide", "most"] (sp_law_steps K) := by
  refine okG T.law_steps_F sc_law_steps (fun vs H Q E h => ?_) (fun cdv A ou t H vs Q E hG hr h => ?_)
  · obtain ⟨_, _, _, _, rfl, _⟩ := h; rfl
  have nd := sc_law_steps.nd
  obtain ⟨r, wide, most, m, rfl, hR, hw1, hw, hmost, hm, q⟩ := h
  refine ⟨_, (pss_cons (ps_par (i := 3) (j := 4) (by rfl) nd rfl rfl (by decide) rfl rfl (pa_cons (pe_callG (ok_law_draw T) hG (hr.mono (by decide)) (by rfl) T.law_draw_g T.law_draw_F.kp T.law_draw_b .nil pass0 (pa_cons (pv 0) (pa_cons pe_int pa_nil))) (pa_cons (pe_lst pa_nil) pa_nil)) (by rfl))
      (pss_cons (sset 5 nd (pe_op op_add pe_int (pe_callG (ok_law_draw T) hG (hr.mono (by decide)) (by rfl) T.law_draw_g T.law_draw_F.kp T.law_draw_b .nil pass0 (pa_cons (pv 0) (pa_cons (pv 1) pa_nil)))))
      (pss_cons (ps_for PassesOwn.never rfl (pi_range1 (by rfl) T.m_range (pa_cons (pe_callG (ok_law_draw T) hG (hr.mono (by decide)) (by rfl) T.law_draw_g T.law_draw_F.kp T.law_draw_b .nil pass0 (pa_cons (pv 0) (pa_cons (pe_op op_add (pv 2) pe_int) pa_nil))) pa_nil)) (gset 6 nd)
        (pss_cons (sset 7 nd (pe_op op_add pe_int (pe_callG (ok_law_draw T) hG (hr.mono (by decide)) (by rfl) T.law_draw_g T.law_draw_F.kp T.law_draw_b .nil pass0 (pa_cons (pv 0) (pa_cons (pv 1) pa_nil)))))
      (pss_cons (sset 8 nd (pe_callB (call_min2 rfl) (by rfl) T.m_min (by decide +kernel) (pa_cons (pv 1) (pa_cons (pe_op op_add (pv 7) (pe_ix (ix_listK K) (pe_lst (pa_cons (pe_callG (ok_law_draw T) hG (hr.mono (by decide)) (by rfl) T.law_draw_g T.law_draw_F.kp T.law_draw_b .nil pass0 (pa_cons (pv 0) (pa_cons (pv 1) pa_nil))) (pa_cons (pe_callG (ok_law_draw T) hG (hr.mono (by decide)) (by rfl) T.law_draw_g T.law_draw_F.kp T.law_draw_b .nil pass0 (pa_cons (pv 0) (pa_cons pe_int pa_nil))) (pa_cons pe_int (pa_cons (pv 1) (pa_cons (pe_callG (ok_law_draw T) hG (hr.mono (by decide)) (by rfl) T.law_draw_g T.law_draw_F.kp T.law_draw_b .nil pass0 (pa_cons (pv 0) (pa_cons pe_int pa_nil))) pa_nil)))))) (pv 3) (fun _ _ => rfl))) pa_nil))))
      (C8.pss_cut (ps_if (pt_cmpR op_eq (pv 3) pe_int (nomark _))
        (pss_one (ps_asg (pe_ix (ix_listK K) (pe_lst (pa_cons (pe_tup (pa_cons pe_int (pa_cons (pe_callB (call_min2 rfl) (by rfl) T.m_min (by decide +kernel) (pa_cons (pv 1) (pa_cons (pe_op op_add (pv 5) pe_int) pa_nil))) pa_nil))) (pa_cons (pe_tup (pa_cons (pv 5) (pa_cons (pv 1) pa_nil))) pa_nil))) (pe_op op_mod (pv 6) pe_int) (fun _ _ => rfl)) (pg_tupK K 2 rfl (pgs_cons (gset 7 nd) (pgs_cons (gset 8 nd) pgs_nil)))))
        pss_nil)
      (C8.pss_cut (ps_if (PW.pt (pw_and (pt_cmpR op_eq (pv 3) pe_int (nomark _)) (pw_and1 (pt_chain op_le op_lt (pv 7) (pv 5) (pv 8)))))
        (pss_one (sset 7 nd (pv 8)))
        pss_nil)
      (pss_one (ps_expr (pe_bmK K PySem.F.plainAttrs_list PySem.F.slot_list_append PySem.F.type_list_append mt_append (pv 4) (pa_cons (pe_tup (pa_cons (pv 7) (pa_cons (pv 8) pa_nil))) pa_nil)))))))))
      (pss_one (ps_ret (pv 4)))))), ?_⟩
  fail "ww"
  refine ⟨r, 5, m, rfl, hR, by omega, by decide, by decide, fun H1 w0 hw00 hw01 s1 hR1 => ?_⟩
  fail "ww"
  refine new_ fun p H2 np s2 hp => ?_
  fail "ww"
  have hpr : p ≠ r := by fail "kpn"
  refine ⟨r, wide, m + 1, rfl, by fail "kp", by omega, by omega, by omega, fun H3 c0 hc0 hc1 s3 hR3 => ?_⟩
  obtain ⟨c, rfl⟩ := Int.eq_ofNat_of_zero_le hc0
  fail "ww"
  refine ⟨r, _, m + 2, rfl, hR3, by omega, by omega, by omega, fun H4 n0 hn0 hn1 s4 hR4 => ?_⟩
  obtain ⟨n, rfl⟩ := Int.eq_ofNat_of_zero_le hn0
  fail "ww"
  refine ⟨by omega, by omega, ?_⟩
  have hp0 : H p = none := by fail "kpz"
  refine forF walk_range (fun i σ' H' => ∃ (ts : List Addr) (cs : List Cmd) (y6 y7 y8 : Option V), σ' = [some (.ref r), some (.int wide), some (.int most), some (.int w0), some (.ref p), some (.int (1 + (c : Int))), y6, y7, y8] ∧ cs.length = i ∧ H' p = some (.lst (ts.map V.ref)) ∧ Cm H' ts cs ∧ Fits wide cs ∧ Sx r H H' ∧ Pol H' r (m + 3 + 4 * i))
   ⟨[], [], none, none, none, rfl, rfl, (by fail "kp" : H4 p = some (.lst [])), Cm.nil, (fun c hc => by cases hc), by fail "kp", hR4⟩ (fun _ _ _ _ _ => trivial) (fun i σ' H' hi p' => ?_) (fun σ' H' p' => ?_)
  · clear s1 s2 s3 s4 hR1 hR3 hR4 hp np
    obtain ⟨ts, cs, y6, y7, y8, rfl, hlen, hP, hC, hF, sH, hRi⟩ := p'
    have hin : i < n := by simpa using hi
    fail "ww"
    refine ⟨r, wide, _, rfl, hRi, by omega, by omega, by omega, fun H5 b0 hb0 hb1 s5 hR5 => ?_⟩
    obtain ⟨b, rfl⟩ := Int.eq_ofNat_of_zero_le hb0
    fail "ww"
    refine ⟨r, wide, _, rfl, hR5, by omega, by omega, by omega, fun H6 d1 hd10 hd11 s6 hR6 => ?_⟩
    fail "ww"
    refine ⟨r, 4, _, rfl, hR6, by omega, by decide, by decide, fun H7 d2 hd20 hd21 s7 hR7 => ?_⟩
    fail "ww"
    refine ⟨r, 3, _, rfl, hR7, by omega, by decide, by decide, fun H8 d3 hd30 hd31 s8 hR8 => ?_⟩
    fail "ww"
    refine new_ fun lx H9 nx s9 hx => ?_
    obtain ⟨L, hat, hL0⟩ : ∃ L : Int, atI [V.int d1, V.int d2, V.int 1, V.int (wide : Int), V.int d3] w0 = some (.int L) ∧ 0 ≤ L := by
      have : w0 = 0 ∨ w0 = 1 ∨ w0 = 2 ∨ w0 = 3 ∨ w0 = 4 := by omega
      rcases this with h | h | h | h | h <;> subst h
      · exact ⟨_, rfl, hd10⟩
      · exact ⟨_, rfl, hd20⟩
      · exact ⟨_, rfl, by omega⟩
      · exact ⟨_, rfl, by omega⟩
      · exact ⟨_, rfl, hd30⟩
    fail "ww"
    refine r_ixL (sq hx) hat ?_
    fail "ww"
    obtain ⟨E, hE, hE1, hE2⟩ : ∃ E : Nat, (if 1 + (b : Int) + L < (wide : Int) then 1 + (b : Int) + L else (wide : Int)) = (E : Int) ∧ 1 + b ≤ E ∧ E ≤ wide := by
      split
      · obtain ⟨l, rfl⟩ := Int.eq_ofNat_of_zero_le hL0
        exact ⟨1 + b + l, by omega, by omega, by omega⟩
      · exact ⟨wide, rfl, by omega, by omega⟩
    rw [hE]
    have hP9 : H9 p = some (.lst (ts.map V.ref)) := by fail "kp"
    have hC9 : Cm H9 ts cs := by fail "kp"
    have sH9 : Sx r H H9 := by fail "kp"
    have hR9 : Pol H9 r (m + 3 + 4 * (i + 1)) := (hR8.same s9).le (by omega)
    clear s5 s6 s7 s8 s9 hR5 hR6 hR7 hR8 hx nx hP hC sH hRi
    refine r_cut (fun σ' H' => ∃ (d : Cmd) (_u : Unit), σ' = [some (.ref r), some (.int wide), some (.int most), some (.int w0), some (.ref p), some (.int (1 + (c : Int))), some (.int (0 + (i : Int))), some (.int (d.1 : Nat)), some (.int (d.2 : Nat))] ∧ (1 ≤ d.1 ∧ d.1 ≤ d.2 ∧ d.2 ≤ wide) ∧ Same H9 H') ?_ (fun σ' H' p' => ?_)
    · fail "ww"
      refine r_dec (fun h3 => ?_) (fun h3 => ?_)
      · fail "ww"
        refine new_ fun t1 G1 m1 e1 g1 => ?_
        fail "ww"
        refine new_ fun t2 G2 m2 e2 g2 => ?_
        fail "ww"
        refine new_ fun l3 G3 m3 e3 g3 => ?_
        fail "ww"
        have hmod : (0 + (i : Int)) % 2 = 0 ∨ (0 + (i : Int)) % 2 = 1 := by omega
        rcases hmod with hh | hh <;> rw [hh]
        · refine r_ixL (sq g3) (v := .ref t1) rfl ?_
          obtain ⟨M, hM, hM1, hM2⟩ : ∃ M : Nat, (if 1 + (c : Int) + 1 < (wide : Int) then 1 + (c : Int) + 1 else (wide : Int)) = (M : Int) ∧ 1 ≤ M ∧ M ≤ wide := by
            split
            · exact ⟨1 + c + 1, by omega, by omega, by omega⟩
            · exact ⟨wide, rfl, by omega, by omega⟩
          rw [hM] at g1
          fail "ww"
          exact ⟨(1, M), (), rfl, ⟨Nat.le_refl _, hM1, hM2⟩, by fail "kp"⟩
        · refine r_ixL (sq g3) (v := .ref t2) rfl ?_
          fail "ww"
          exact ⟨(1 + c, wide), (), by simp, ⟨by show 1 ≤ 1 + c; omega, by show 1 + c ≤ wide; omega, Nat.le_refl _⟩, by fail "kp"⟩
      · fail "ww"
        exact ⟨(1 + b, E), (), by simp, ⟨by show 1 ≤ 1 + b; omega, hE1, hE2⟩, Same.refl _⟩
    · obtain ⟨d, _, rfl, hd, sd⟩ := p'
      refine r_cut (fun σ' H' => ∃ (d : Cmd) (_u : Unit), σ' = [some (.ref r), some (.int wide), some (.int most), some (.int w0), some (.ref p), some (.int (1 + (c : Int))), some (.int (0 + (i : Int))), some (.int (d.1 : Nat)), some (.int (d.2 : Nat))] ∧ (1 ≤ d.1 ∧ d.1 ≤ d.2 ∧ d.2 ≤ wide) ∧ Same H9 H') ?_ (fun σ' H' p' => ?_)
      · fail "ww"
        refine r_dec (fun h4 => ?_) (fun h4 => ?_)
        · fail "ww"
          refine r_dec (fun h5 => ?_) (fun h5 => ?_)
          · fail "ww"
            refine r_dec (fun h6 => ?_) (fun h6 => ?_)
            · fail "ww"
              exact ⟨(d.2, d.2), (), rfl, ⟨by show 1 ≤ d.2; omega, Nat.le_refl _, hd.2.2⟩, sd⟩
            · fail "ww"
              exact ⟨d, (), rfl, hd, sd⟩
          · fail "ww"
            exact ⟨d, (), rfl, hd, sd⟩
        · fail "ww"
          exact ⟨d, (), rfl, hd, sd⟩
      · obtain ⟨d, _, rfl, hd, sd⟩ := p'
        fail "ww"
        refine new_ fun t1 G1 m1 e1 g1 => ?_
        have hPG : G1 p = some (.lst (ts.map V.ref)) := by fail "kp"
        fail "ww"
        refine r_append hPG (by rw [List.length_map, hC9.len]; exact size_lt (by omega)) ?_
        fail "ww"
        refine ⟨ts ++ [t1], cs ++ [d], _, _, _, rfl, by rw [List.length_append, hlen]; rfl, by rw [upd_same, List.map_append]; rfl, ?_, ?_, Sx.old (by fail "kp") hp0, (Pol.other (by fail "kp") hpr)⟩
        · have : Cm G1 (ts ++ [t1]) (cs ++ [d]) := Cm.snoc (by fail "kp") g1
          exact this.put hPG
        · intro e he
          rcases List.mem_append.mp he with z | z
          · exact hF e z
          · rw [List.mem_singleton.mp z]; exact hd
  · obtain ⟨ts, cs, y6, y7, y8, rfl, hlen, hP, hC, hF, sH, hRi⟩ := p'
    rw [Int.toNat_natCast] at hlen hRi
    fail "ww"
    exact q _ _ ts cs sH hp0 (hRi.le (by omega)) hP hC hF (by omega)
def sp_law_reached (K : PySem.W.Frag) : Sp := fun vs H Q _ => ∃ (a : Addr) (l : List Int) (n : Nat), vs = [.ref a] ∧ H a = some (.lst (l.map V.int)) ∧ l.Perm (ascN n) ∧ 1 ≤ n ∧ n ≤ 5 ∧
  ∀ (H' : Hp) (p : Addr) (F : Fd), Same H H' → H p = none → H' p = some (.dT (fkv F)) → GdT n (inv l) F → (∀ ps, Nb n ps → Kx F (nbs l ps)) → F.length ≤ 10000000 → Q (.ref p) H'
theorem ok_law_reached (T : Txt K mg) : FnG P w K mg base CX0 2 T.law_reached_a T.law_reached_d ["start"] (sp_law_reached K) := by
  refine okG T.law_reached_F sc_law_reached (fun vs H Q E h => ?_) (fun cdv A ou t H vs Q E hG hr h => ?_)
  · obtain ⟨_, _, _, rfl, _⟩ := h; rfl
  have nd := sc_law_reached.nd
  obtain ⟨a, l, n, rfl, hA, hlp, hn1, hn, q⟩ := h
  refine ⟨_, (pss_cons (ps_par3 (i := 1) (j := 2) (l := 3) (by rfl) nd rfl rfl rfl (by decide) (by decide) (by decide) rfl rfl rfl (pa_cons (pe_dispT hr.units (pps_cons (pe_callTy (tupleK K) (by rfl) T.m_tuple (by decide +kernel) (pa_cons (pv 0) pa_nil)) pe_int pps_nil)) (pa_cons (pe_lst (pa_cons (pv 0) pa_nil)) (pa_cons pe_int pa_nil))) (by rfl))
      (pss_cons (ps_while PassesOwn.never (pt_cmpR (neDK K hr.units) (pv 2) (pe_lst pa_nil) (nomark _))
        (pss_cons (ps_par (i := 3) (j := 4) (by rfl) nd rfl rfl (by decide) rfl rfl (pa_cons (pe_op op_add (pv 3) pe_int) (pa_cons (pe_lst pa_nil) pa_nil)) (by rfl))
      (pss_cons (ps_for PassesOwn.never rfl (pi_listK K (pv 2)) (gset 5 nd)
        (pss_one (ps_for PassesOwn.never rfl (pi_range2 (by rfl) T.m_range (pa_cons pe_int (pa_cons (pe_callB (lenK K) (by rfl) T.m_len PySem.boot_len (pa_cons (pv 0) pa_nil)) pa_nil))) (gset 6 nd)
        (pss_cons (sset 7 nd (pe_callG (ok_law_ran T) hG (hr.mono (by decide)) (by rfl) T.law_ran_g T.law_ran_F.kp T.law_ran_b .nil pass0 (pa_cons (pv 5) (pa_cons (pe_lst (pa_cons (pe_tup (pa_cons (pv 6) (pa_cons (pe_op op_add (pv 6) pe_int) pa_nil))) pa_nil)) pa_nil))))
      (pss_one (ps_if (pt_cmp (pc_dnotin (hu_of hr) (pe_callTy (tupleK K) (by rfl) T.m_tuple (by decide +kernel) (pa_cons (pv 7) pa_nil)) (pv 1)) (by rfl))
        (pss_cons (ps_dput (hu_of hr) (pv 1) (pe_callTy (tupleK K) (by rfl) T.m_tuple (by decide +kernel) (pa_cons (pv 7) pa_nil)) (pv 3) rfl)
      (pss_one (ps_expr (pe_bmK K PySem.F.plainAttrs_list PySem.F.slot_list_append PySem.F.type_list_append mt_append (pv 4) (pa_cons (pv 7) pa_nil)))))
        pss_nil))))))
      (pss_one (sset 2 nd (pv 4))))))
      (pss_one (ps_ret (pv 1))))), ?_⟩
  have hll : l.length = n := by rw [hlp.length_eq]; simp [ascN]
  fail "ww"
  refine r_par3 ?_
  fail "ww"
  intro pd npd
  have had : a ≠ pd := ne_of_none hA npd
  have hA1 := upd_old (o := HO.dT []) npd hA
  have hp1 : (upd H pd (HO.dT [])) pd = some (.dT []) := upd_same
  have s1 : Same H (upd H pd (HO.dT [])) := same_new npd
  generalize upd H pd (HO.dT []) = H1 at hA1 hp1 s1 ⊢
  show tCB (rTupOf K) _ _ _ _
  fail "ww"
  refine n_tupOf (sq hA1) (new_ fun t0 H2 n2 s2 h2 => ?_)
  fail "ww"
  show _ ∧ _
  refine ⟨s2 _ _ hp1, t0, l.map Sum.inl, .int 0, rfl, by rw [key_v]; exact h2, ?_⟩
  have s3 : Same H (upd H2 pd (.dT [(l.map Sum.inl, V.int 0)])) := same_old (s1.trans s2) npd
  have hd3 : (upd H2 pd (.dT [(l.map Sum.inl, V.int 0)])) pd = some (.dT (fkv [(l, 0)])) := upd_same
  generalize upd H2 pd (.dT [(l.map Sum.inl, V.int 0)]) = H3 at s3 hd3 ⊢
  clear hA1 hp1 s1 s2 h2 n2
  fail "ww"
  refine new_ fun pl H4 n4 s4 h4 => ?_
  fail "ww"
  refine ⟨_, _, _, rfl, ?_⟩
  fail "ww"
  obtain ⟨T, hT⟩ : ∃ T, inv l = T := ⟨_, rfl⟩
  have hT10 : T ≤ 10 := by
    have := asc_inv l (hlp.nodup_iff.mpr (asc_nodup n))
    rw [hll, hT] at this
    have : n = 1 ∨ n = 2 ∨ n = 3 ∨ n = 4 ∨ n = 5 := by omega
    rcases this with e | e | e | e | e <;> subst e <;> omega
  have p4 : ∀ a b : Nat, a ≤ b → 4 ^ a ≤ 4 ^ b := fun a b h => Nat.pow_le_pow_right (by decide) h
  refine r_while (Wd l n T a pd H) (T + 1)
    ⟨pl, 0, [(l, 0)], [a], [l], none, none, none, none, rfl, s3.trans s4, s4 _ _ hd3, fun x hx => ?_, h4, (ne_of_none hd3 n4).symm, .one ((s3.trans s4) _ _ hA), fun t ht => ?_, fun x hx => ?_, (by show 1 ≤ 1; decide), (by show 1 ≤ 2; decide), rfl, fun x hx => ?_, fun x d hx => ?_⟩ (fun w σ' G p => ?_)
  · rw [List.mem_singleton.mp hx]; exact ⟨hlp, by rw [Nat.zero_add]; exact hT⟩
  · rw [List.mem_singleton.mp ht]; exact had
  · rw [List.mem_singleton.mp hx]; exact ⟨hlp, by rw [Nat.zero_add]; exact hT⟩
  · have : x = l := by simpa using hx
    rw [this]; exact new_key (F := []) rfl
  · cases List.mem_singleton.mp hx; exact .inl List.mem_cons_self
  clear s4 h4 n4 s3 hd3
  obtain ⟨pl, mm, F, as, rows, y4, y5, y6, y7, rfl, s, hd, hG, hl, hlpd, hW, hne, hr, hrl, hFl, hw, hK, hC⟩ := p
  fail "ww"
  refine new_ fun e0 G1 m1 t1 g1 => ?_
  refine r_neRw (sq (t1 _ _ hl)) (hW.same t1) (bs := []) (ms := []) (sq g1) .nil ?_
  fail "ww"
  have npH : H pd = none := npd
  by_cases hrn : rows = []
  · rw [decide_eq_true hrn]
    fail "ww"
    have h11 := p4 mm 11 (by omega)
    have e11 : (4 : Nat) ^ 11 = 4194304 := by decide
    have hCl : ∀ x d, (x, d) ∈ F → Cl n F x := fun x d h => (hC x d h).resolve_left fun z => by rw [hrn] at z; cases z
    exact q _ pd F (s.trans t1) npH (t1 _ _ hd) (by rw [hT]; exact hG) (fun ps h => Kx.walk hCl h (hK _ List.mem_cons_self)) (by omega)
  · rw [decide_eq_false hrn]
    have hmm : mm ≤ T := by
      cases rows with
      | nil => exact absurd rfl hrn
      | cons x r => have := (hr x List.mem_cons_self).2; omega
    have h10 := p4 mm 10 (by omega)
    have e10 : (4 : Nat) ^ 10 = 1048576 := by decide
    have e4 : (4 : Nat) ^ (mm + 1) = 4 * 4 ^ mm := by rw [Nat.pow_succ, Nat.mul_comm]
    refine ⟨Wd l n T a pd H (w - 1), fun σ' H' h => ⟨w - 1, by omega, h⟩, ?_⟩
    fail "ww"
    refine new_ fun pt G2 m2 t2 g2 => ?_
    fail "ww"
    have t12 := t1.trans t2
    have hptd : pt ≠ pd := (ne_of_none (t1 _ _ hd) m2).symm
    have hptl : pl ≠ pt := ne_of_none (t1 _ _ hl) m2
    have hd2 := t12 _ _ hd
    have hl2 := t12 _ _ hl
    have hW2 := hW.same t12
    have hnt : ∀ t ∈ as, t ≠ pt := fun t ht => by
      obtain ⟨i, hi, e⟩ := List.getElem_of_mem ht
      obtain ⟨_, _, h⟩ := hW.at_ i t (by rw [List.getElem?_eq_getElem hi, e])
      exact ne_of_none (t1 _ _ h) m2
    have s2 := s.trans t12
    have nptH : H pt = none := (s.trans t1).free m2
    clear t1 t2 t12 hd hl hW s g1 m1 m2
    refine forA (walk_list (xs := as.map V.ref)) (fun i σ' G => ∃ (F : Fd) (bs : List Addr) (ys : List (List Int)) (y5 y6 y7 : Option V), σ' = [some (.ref a), some (.ref pd), some (.ref pl), some (.int ((mm : Int) + 1)), some (.ref pt), y5, y6, y7] ∧ Same H G ∧ G pd = some (.dT (fkv F)) ∧ GdT n T F ∧ G pl = some (.lst (as.map V.ref)) ∧ Rws G as rows ∧ G pt = some (.lst (bs.map V.ref)) ∧ Rws G bs ys ∧ (∀ t ∈ bs, t ≠ pd ∧ t ≠ pt) ∧ (∀ x ∈ ys, x.Perm (ascN n) ∧ mm + 1 + inv x = T) ∧ ys.length ≤ 4 * i ∧ F.length ≤ 2 * 4 ^ mm + 4 * i ∧ (∀ x ∈ l :: rows, Kx F x) ∧ (∀ x ∈ ys, Kx F x) ∧ (∀ x d, (x, d) ∈ F → x ∈ ys ∨ x ∈ rows ∨ Cl n F x) ∧ (∀ (i' : Nat) (x : List Int), i' < i → rows[i']? = some x → Cl n F x))
      ⟨F, [], [], y5, y6, y7, rfl, s2, hd2, hG, hl2, hW2, g2, .nil, (fun t ht => by cases ht), (fun x hx => by cases hx), Nat.zero_le _, hFl, hK, (fun x hx => by cases hx), fun x d h => .inr (hC x d h), fun i' x h => absurd h (Nat.not_lt_zero _)⟩ (fun i σ' G _ p' => ?_) (fun i σ' G hi p' => ?_) (fun σ' G p' => ?_)
    · obtain ⟨_, _, _, _, _, _, _, _, _, _, h, _⟩ := p'; exact sq h
    · clear hd2 hl2 hW2 s2 g2 hG hFl hK hC
      obtain ⟨F, bs, ys, y5, y6, y7, rfl, s, hd, hG, hl, hW, hpt, hB, hbn, hy, hyl, hFl, hK, hKy, hC, hCi⟩ := p'
      have hia : i < as.length := by simpa using hi
      have hi' : i < rows.length := by rw [← hW.len]; exact hia
      have e1 : (as.map V.ref)[i] = .ref as[i] := List.getElem_map ..
      rw [e1]
      have hxr := hr _ (List.getElem_mem hi')
      have hxg : rows[i]? = some rows[i] := List.getElem?_eq_getElem hi'
      generalize rows[i] = x at hxr hxg
      fail "ww"
      rw [List.length_map, hll]
      refine ⟨⟨by omega, by omega, by omega, by omega⟩, ?_⟩
      refine forF walk_range (fun j σ' G => ∃ (F : Fd) (bs : List Addr) (ys : List (List Int)) (y6 y7 : Option V), σ' = [some (.ref a), some (.ref pd), some (.ref pl), some (.int ((mm : Int) + 1)), some (.ref pt), some (.ref as[i]), y6, y7] ∧ Same H G ∧ G pd = some (.dT (fkv F)) ∧ GdT n T F ∧ G pl = some (.lst (as.map V.ref)) ∧ Rws G as rows ∧ G pt = some (.lst (bs.map V.ref)) ∧ Rws G bs ys ∧ (∀ t ∈ bs, t ≠ pd ∧ t ≠ pt) ∧ (∀ x ∈ ys, x.Perm (ascN n) ∧ mm + 1 + inv x = T) ∧ ys.length ≤ 4 * i + j ∧ F.length ≤ 2 * 4 ^ mm + 4 * i + j ∧ (∀ x ∈ l :: rows, Kx F x) ∧ (∀ x ∈ ys, Kx F x) ∧ (∀ x d, (x, d) ∈ F → x ∈ ys ∨ x ∈ rows ∨ Cl n F x) ∧ (∀ (i' : Nat) (x : List Int), i' < i → rows[i']? = some x → Cl n F x) ∧ (∀ p, 1 ≤ p → p < 1 + j → Kx F (step x (p, p + 1))))
        ⟨F, bs, ys, y6, y7, rfl, s, hd, hG, hl, hW, hpt, hB, hbn, hy, hyl, hFl, hK, hKy, hC, hCi, fun p h1 h2 => by omega⟩ (fun _ _ _ _ _ => trivial) (fun j σ' G hj p => ?_) (fun σ' G p => ?_)
      · clear s hd hG hl hW hpt hB hbn hy hyl hFl hK hKy hC hCi
        obtain ⟨F, bs, ys, y6, y7, rfl, s, hd, hG, hl, hW, hpt, hB, hbn, hy, hyl, hFl, hK, hKy, hC, hCi, hCj⟩ := p
        have hj4 : j + 1 < n := by omega
        obtain ⟨x', ex', hxt⟩ := hW.at_ i _ (List.getElem?_eq_getElem hia)
        rw [hxg] at ex'
        obtain rfl : x = x' := Option.some.inj ex'
        fail "ww"
        refine new_ fun v1 G1 m1 t1 g1 => ?_
        fail "ww"
        refine new_ fun v2 G2 m2 t2 g2 => ?_
        fail "ww"
        have t12 := t1.trans t2
        have hxl : x.length = n := by rw [hxr.1.length_eq]; simp [ascN]
        have c1 : Cm G2 [v1] [((1 + j, 1 + j + 1) : Cmd)] := ⟨rfl, fun i t e => by
          cases i with
          | zero => cases e; exact ⟨_, rfl, t2 _ _ (by rw [g1]; rfl)⟩
          | succ i => simp at e⟩
        have hft : Fits x.length [((1 + j, 1 + j + 1) : Cmd)] := fun c hc => by rw [List.mem_singleton.mp hc]; exact ⟨by show 1 ≤ 1 + j; omega, by show 1 + j ≤ 1 + j + 1; omega, by show 1 + j + 1 ≤ x.length; omega⟩
        refine ⟨as[i], v2, x, [v1], [(1 + j, 1 + j + 1)], rfl, .inl (sq (t12 _ _ hxt)), sq g2, c1, by omega, hft, fun G3 v3 t3 m3 g3 => ?_⟩
        fail "ww"
        obtain ⟨y, hyE⟩ : ∃ y, runM x [(1 + j, 1 + j + 1)] = y := ⟨_, rfl⟩
        have hyp : y.Perm (ascN n) := by rw [← hyE]; exact (runM_perm _ _ hft).trans hxr.1
        have hstep := step_two hxr.1 (show 1 ≤ 1 + j by omega) (show 1 + j < n by omega)
        have hyE' : step x (1 + j, 1 + j + 1) = y := hyE
        rw [hyE'] at hstep
        rw [hyE] at g3
        have hv3 : v3 ≠ pd ∧ v3 ≠ pt := ⟨(ne_of_none (t12 _ _ hd) m3).symm, (ne_of_none (t12 _ _ hpt) m3).symm⟩
        refine n_tupOf (sq g3) (new_ fun q4 G4 m4 t4 g4 => ?_)
        have t14 := t12.trans (t3.trans t4)
        have hd4 := t14 _ _ hd
        have hl4 := t14 _ _ hl
        have hpt4 := t14 _ _ hpt
        have hW4 := hW.same t14
        have hB4 := hB.same t14
        have s4 := s.trans t14
        have g34 := t4 _ _ g3
        clear t12 t3 t4 t14 t1 t2 hd hl hpt hW hB s g1 g2 g3 m1 m2 m3 c1
        have pstep : ∀ (F' : Fd), (∀ p, 1 ≤ p → p < 1 + j → Kx F' (step x (p, p + 1))) → Kx F' y → ∀ p, 1 ≤ p → p < 1 + (j + 1) → Kx F' (step x (p, p + 1)) := fun F' h1 h2 p h3 h4 => by
          by_cases e : p = 1 + j
          · rw [e, hyE']; exact h2
          · exact h1 p h3 (by omega)
        fail "ww"
        refine ⟨pd, _, rfl, .inr ⟨fkv F, y.map Sum.inl, q4, .inl hd4, rfl, by rw [key_v]; exact g4, rfl⟩, ?_⟩
        cases ev : valV (fkv F) (y.map Sum.inl) with
        | some v =>
          fail "ww"
          exact ⟨F, bs, ys, _, _, rfl, s4, hd4, hG, hl4, hW4, hpt4, hB4, hbn, hy, by omega, by omega, hK, hKy, hC, hCi, pstep F hCj (by unfold Kx; rw [ev]; rfl)⟩
        | none =>
          have hyx : inv y + 1 = inv x := by
            rcases hstep with e | e
            · have := hK x (List.mem_cons_of_mem _ (List.mem_of_getElem? hxg))
              unfold Kx at this
              rw [← e, ev] at this; cases this
            · exact e
          have kp : ∀ {z : List Int}, Kx F z → Kx (F ++ [(y, mm + 1)]) z := fun h => keep_key ev h
          have kn : Kx (F ++ [(y, mm + 1)]) y := new_key ev
          rw [show (!(none : Option V).isSome) = true from rfl]
          fail "ww"
          refine n_tupOf (sq g34) (new_ fun q5 G5 m5 t5 g5 => ?_)
          have hd5 := t5 _ _ hd4
          have hpt5 := t5 _ _ hpt4
          refine ⟨pd, _, rfl, .inr ⟨fkv F, y.map Sum.inl, q5, hd5, rfl, by rw [key_v]; exact g5, by unfold fkv; rw [List.length_map]; exact size_lt (by omega), rfl⟩, ?_⟩
          rw [show (mm : Int) + 1 = ((mm + 1 : Nat) : Int) by omega, valV_none ev]
          fail "ww"
          refine r_append (upd_to hptd hpt5) (size_lt (by rw [List.length_map, hB4.len]; omega)) ?_
          have hbn' : ∀ t ∈ bs ++ [v3], t ≠ pd ∧ t ≠ pt := fun t ht => by
            rcases List.mem_append.mp ht with h | h
            · exact hbn t h
            · rw [List.mem_singleton.mp h]; exact hv3
          refine ⟨F ++ [(y, mm + 1)], bs ++ [v3], ys ++ [y], some (.int (1 + (j : Int))), some (.ref v3), rfl, same_old (same_old (s4.trans t5) npH) nptH, upd_to hptd.symm upd_same, fun z hz => ?_, upd_to hptl (upd_to hlpd (t5 _ _ hl4)), ((hW4.same t5).upd_ fun h => hne _ h rfl).upd_ fun h => hnt _ h rfl, by rw [upd_same, List.map_append]; rfl, (((hB4.same t5).app (.one (t5 _ _ g34))).upd_ fun h => (hbn' _ h).1 rfl).upd_ fun h => (hbn' _ h).2 rfl, hbn', fun z hz => ?_, by rw [List.length_append]; simp only [List.length_singleton]; omega, by rw [List.length_append]; simp only [List.length_singleton]; omega, fun z hz => kp (hK z hz), fun z hz => ?_, fun z d hz => ?_, fun i' z hz ez p h1 h2 => kp (hCi i' z hz ez p h1 h2), pstep _ (fun p h1 h2 => kp (hCj p h1 h2)) kn⟩
          · rcases List.mem_append.mp hz with h | h
            · exact hG z h
            · rw [List.mem_singleton.mp h]
              exact ⟨hyp, by show mm + 1 + inv y = T; have := hxr.2; omega⟩
          · rcases List.mem_append.mp hz with h | h
            · exact hy z h
            · rw [List.mem_singleton.mp h]
              exact ⟨hyp, by have := hxr.2; omega⟩
          · rcases List.mem_append.mp hz with h | h
            · exact kp (hKy z h)
            · rw [List.mem_singleton.mp h]; exact kn
          · rcases List.mem_append.mp hz with h | h
            · rcases hC z d h with g | g | g
              · exact .inl (List.mem_append_left _ g)
              · exact .inr (.inl g)
              · exact .inr (.inr fun p h1 h2 => kp (g p h1 h2))
            · cases List.mem_singleton.mp h
              exact .inl (List.mem_append_right _ List.mem_cons_self)
      · obtain ⟨F, bs, ys, y6, y7, rfl, s, hd, hG, hl, hW, hpt, hB, hbn, hy, hyl, hFl, hK, hKy, hC, hCi, hCj⟩ := p
        refine ⟨F, bs, ys, _, y6, y7, rfl, s, hd, hG, hl, hW, hpt, hB, hbn, hy, by omega, by omega, hK, hKy, hC, fun i' z hz ez => ?_⟩
        rcases Nat.lt_or_eq_of_le (Nat.le_of_lt_succ hz) with g | g
        · exact hCi i' z g ez
        · rw [g, hxg] at ez
          obtain rfl : x = z := Option.some.inj ez
          exact fun p h1 h2 => hCj p h1 (by omega)
    · clear hd2 hl2 hW2 s2 g2 hG hFl hK hC
      obtain ⟨F, bs, ys, y5, y6, y7, rfl, s, hd, hG, hl, hW, hpt, hB, hbn, hy, hyl, hFl, hK, hKy, hC, hCi⟩ := p'
      rw [List.length_map, hW.len] at hyl hFl hCi
      fail "ww"
      refine ⟨pt, mm + 1, F, bs, ys, _, y5, y6, y7, rfl, s, hd, hG, hpt, hptd, hB, fun t ht => (hbn t ht).1, hy, by omega, by omega, by omega, fun x hx => (List.mem_cons.mp hx).elim (fun e => e ▸ hK _ List.mem_cons_self) (hKy x), fun x d h => ?_⟩
      rcases hC x d h with g | g | g
      · exact .inl g
      · obtain ⟨i', hi', e⟩ := List.getElem_of_mem g
        exact .inr (hCi i' x hi' (by rw [List.getElem?_eq_getElem hi', e]))
      · exact .inr g
def sp_run (K : PySem.W.Frag) : Sp := fun vs H Q _ => ∃ (a b : Addr) (ns : List Int) (ts : List Addr) (cs : List Cmd), vs = [.ref a, .ref b] ∧ SqL K H a (ns.map V.int) ∧ SqL K H b (ts.map V.ref) ∧ Cm H ts cs ∧ 1 ≤ ns.length ∧ ns.length ≤ 1000 ∧ Fits ns.length cs ∧
  ∀ (H' : Hp) (p : Addr), Same H H' → H p = none → H' p = some (.lst ((runM ns cs).map V.int)) → Q (.ref p) H'
theorem ok_run (T : Txt K mg) : FnG P w K mg base CX0 3 T.run_a T.run_d ["row", "commands"] (sp_run K) := by
  refine okG T.run_F sc_run (fun vs H Q E h => ?_) (fun cdv A ou t H vs Q E hG hr h => ?_)
  · obtain ⟨_, _, _, _, _, rfl, _⟩ := h; rfl
  have nd := sc_run.nd
  obtain ⟨a, b, ns, ts, cs, rfl, hS, hB, hC, hn, hn2, hF, q⟩ := h
  refine ⟨_, (pss_cons (ps_expr (pe_callG (ok_check_sized_script T) hG (hr.mono (by decide)) (by rfl) T.check_sized_script_g T.check_sized_script_F.kp T.check_sized_script_b .nil pass0 (pa_cons (pe_callB (lenK K) (by rfl) T.m_len PySem.boot_len (pa_cons (pv 0) pa_nil)) (pa_cons (pv 1) pa_nil))))
      (pss_one (ps_ret (pe_callG (ok_sort_stretches T) hG (hr.mono (by decide)) (by rfl) T.sort_stretches_g T.sort_stretches_F.kp T.sort_stretches_b .nil pass0 (pa_cons (pv 0) (pa_cons (pv 1) pa_nil)))))), ?_⟩
  fail "g"
  rw [List.length_map]
  refine ⟨ns.length, b, ts, cs, rfl, hn, hB, hC, hF, fun H1 s1 => ?_⟩
  fail "g"
  refine ⟨a, b, ns, ts, cs, rfl, s1.seq hS, s1.seq hB, hC.same s1, hn2, hF, fun H2 p s2 np hP => ?_⟩
  fail "g"
  exact q _ p (s1.trans s2) (s1.free np) hP
def sp_greatest_row (K : PySem.W.Frag) : Sp := fun vs H Q _ => ∃ (n : Nat) (b : Addr) (ts : List Addr) (cs : List Cmd), vs = [.int n, .ref b] ∧ 1 ≤ n ∧ n ≤ 1000 ∧ SqL K H b (ts.map V.ref) ∧ Cm H ts cs ∧ Fits n cs ∧
  ∀ (H' : Hp) (p : Addr), Same H H' → H p = none → H' p = some (.lst ((backM cs (ascN n)).map V.int)) → Q (.ref p) H'
theorem ok_greatest_row (T : Txt K mg) : FnG P w K mg base CX0 3 T.greatest_row_a T.greatest_row_d ["size", "commands"] (sp_greatest_row K) := by
  refine okG T.greatest_row_F sc_greatest_row (fun vs H Q E h => ?_) (fun cdv A ou t H vs Q E hG hr h => ?_)
  · obtain ⟨_, _, _, _, rfl, _⟩ := h; rfl
  have nd := sc_greatest_row.nd
  obtain ⟨n, b, ts, cs, rfl, hn, hn2, hB, hC, hF, q⟩ := h
  refine ⟨_, (pss_cons (ps_expr (pe_callG (ok_check_size T) hG (hr.mono (by decide)) (by rfl) T.check_size_g T.check_size_F.kp T.check_size_b .nil pass0 (pa_cons (pv 0) pa_nil)))
      (pss_one (ps_ret (pe_callG (ok_greatest_before T) hG (hr.mono (by decide)) (by rfl) T.greatest_before_g T.greatest_before_F.kp T.greatest_before_b .nil pass0 (pa_cons (pv 1) (pa_cons (pe_listRg rfl (by rfl) T.m_list (prg_2 (by rfl) T.m_range pe_int (pe_op op_add (pv 0) pe_int))) pa_nil)))))), ?_⟩
  fail "g"
  refine ⟨n, rfl, hn, ?_⟩
  fail "g"
  refine ⟨RgOk.of_le (by omega) (by omega) (by omega) (by omega), fun l0 nl => ?_⟩
  have e : rgV 1 ((n : Int) + 1) = (ascN n).map V.int := by
    unfold rgV ascN
    rw [List.map_map, show ((n : Int) + 1 - 1).toNat = n by omega]
    rfl
  rw [e]
  have s1 := same_new (o := .lst ((ascN n).map V.int)) nl
  fail "g"
  refine ⟨b, l0, ascN n, n, ts, cs, rfl, s1.seq hB, sq upd_same, List.Perm.refl _, hn, hn2, hC.same s1, hF, fun H2 p s2 np hP => ?_⟩
  exact q _ p (s1.trans s2) (s1.free np) hP
def sp_effect (K : PySem.W.Frag) : Sp := fun vs H Q _ => ∃ (n : Nat) (b : Addr) (ts : List Addr) (cs : List Cmd) (_u : Unit), vs = [.int n, .ref b] ∧ 1 ≤ n ∧ n ≤ 1000 ∧ SqL K H b (ts.map V.ref) ∧ Cm H ts cs ∧ Fits n cs ∧
  ∀ (H' : Hp) (p : Addr), Same H H' → H p = none → H' p = some (.lst ((runM (desc n) cs).map V.int)) → Q (.ref p) H'
theorem ok_effect (T : Txt K mg) : FnG P w K mg base CX0 4 T.effect_a T.effect_d ["size", "commands"] (sp_effect K) := by
  refine okG T.effect_F sc_effect (fun vs H Q E h => ?_) (fun cdv A ou t H vs Q E hG hr h => ?_)
  · obtain ⟨_, _, _, _, _, rfl, _⟩ := h; rfl
  have nd := sc_effect.nd
  obtain ⟨n, b, ts, cs, _, rfl, hn, hn2, hB, hC, hF, q⟩ := h
  refine ⟨_, (pss_cons (ps_expr (pe_callG (ok_check_size T) hG (hr.mono (by decide)) (by rfl) T.check_size_g T.check_size_F.kp T.check_size_b .nil pass0 (pa_cons (pv 0) pa_nil)))
      (pss_one (ps_ret (pe_callG (ok_run T) hG (hr.mono (by decide)) (by rfl) T.run_g T.run_F.kp T.run_b .nil pass0 (pa_cons (pe_callG (ok_descending_row T) hG (hr.mono (by decide)) (by rfl) T.descending_row_g T.descending_row_F.kp T.descending_row_b .nil pass0 (pa_cons (pv 0) pa_nil)) (pa_cons (pv 1) pa_nil)))))), ?_⟩
  fail "g"
  refine ⟨n, rfl, hn, ?_⟩
  fail "g"
  refine ⟨n, rfl, hn2, fun H1 p s1 np hP => ?_⟩
  have hl := desc_len n
  fail "g"
  refine ⟨p, b, desc n, ts, cs, rfl, sq hP, s1.seq hB, hC.same s1, by omega, by omega, by rw [hl]; exact hF, fun H2 p2 s2 np2 hP2 => ?_⟩
  fail "g"
  exact q _ p2 (s1.trans s2) (s1.free np2) hP2
def sp_ahead (K : PySem.W.Frag) : Sp := fun vs H Q _ => ∃ (n : Nat) (b : Addr) (ts : List Addr) (cs : List Cmd), vs = [.int n, .ref b] ∧ 1 ≤ n ∧ n ≤ 1000 ∧ SqL K H b (ts.map V.ref) ∧ Cm H ts cs ∧ Fits n cs ∧
  ∀ (H' : Hp) (p : Addr) (us : List Addr), Same H H' → H p = none → H' p = some (.lst (us.map V.ref)) → Cm H' us ((ahdM n cs).map fun k => (k, k + 1)) → Q (.ref p) H'
theorem ok_ahead (T : Txt K mg) : FnG P w K mg base CX0 4 T.ahead_a T.ahead_d ["size", "commands"] (sp_ahead K) := by
  refine okG T.ahead_F sc_ahead (fun vs H Q E h => ?_) (fun cdv A ou t H vs Q E hG hr h => ?_)
  · obtain ⟨_, _, _, _, rfl, _⟩ := h; rfl
  have nd := sc_ahead.nd
  obtain ⟨n, b, ts, cs, rfl, hn, hn2, hB, hC, hF, q⟩ := h
  refine ⟨_, (pss_cons (sset 2 nd (pe_callG (ok_greatest_row T) hG (hr.mono (by decide)) (by rfl) T.greatest_row_g T.greatest_row_F.kp T.greatest_row_b .nil pass0 (pa_cons (pv 0) (pa_cons (pv 1) pa_nil))))
      (pss_one (ps_ret (pe_callG (ok_exchanges T) hG (hr.mono (by decide)) (by rfl) T.exchanges_g T.exchanges_F.kp T.exchanges_b .nil pass0 (pa_cons (pv 2) pa_nil))))), ?_⟩
  have hG := back_perm_n (List.Perm.refl (ascN n)) hF
  have hGl := perm_len hG
  fail "ww"
  refine ⟨n, b, ts, cs, rfl, hn, hn2, hB, hC, hF, fun H1 p s1 np hp => ?_⟩
  fail "ww"
  refine ⟨p, _, rfl, sq hp, by rw [hGl]; exact hG, by omega, by omega, fun H3 p3 ts3 ps s3 np3 _ h3 c3 st lv hpl hps => ?_⟩
  refine q _ p3 _ (by fail "kp") (by fail "kpz") h3 ?_
  unfold ahdM
  rw [← hps]
  exact c3
def sp_missing_behind (K : PySem.W.Frag) : Sp := fun vs H Q _ => ∃ (n : Nat) (b : Addr) (ts : List Addr) (cs : List Cmd), vs = [.int n, .ref b] ∧ 1 ≤ n ∧ n ≤ 1000 ∧ SqL K H b (ts.map V.ref) ∧ Cm H ts cs ∧ Fits n cs ∧ ∀ (H' : Hp), Same H H' → Q (.int (inv (runM (desc n) cs) : Nat)) H'
theorem ok_missing_behind (T : Txt K mg) : FnG P w K mg base CX0 5 T.missing_behind_a T.missing_behind_d ["size", "commands"] (sp_missing_behind K) := by
  refine okG T.missing_behind_F sc_missing_behind (fun vs H Q E h => ?_) (fun cdv A ou t H vs Q E hG hr h => ?_)
  · obtain ⟨_, _, _, _, rfl, _⟩ := h; rfl
  have nd := sc_missing_behind.nd
  obtain ⟨n, b, ts, cs, rfl, hn, hn2, hB, hC, hF, q⟩ := h
  refine ⟨_, (pss_one (ps_ret (pe_callG (ok_inversions T) hG (hr.mono (by decide)) (by rfl) T.inversions_g T.inversions_F.kp T.inversions_b .nil pass0 (pa_cons (pe_callG (ok_effect T) hG (hr.mono (by decide)) (by rfl) T.effect_g T.effect_F.kp T.effect_b .nil pass0 (pa_cons (pv 0) (pa_cons (pv 1) pa_nil))) pa_nil)))), ?_⟩
  have hEl := perm_len (run_perm_n (desc_perm n) hF)
  fail "ww"
  refine ⟨n, b, ts, cs, (), rfl, hn, hn2, hB, hC, hF, fun H1 p s1 np hp => ?_⟩
  fail "ww"
  refine ⟨p, _, rfl, sq hp, by omega, fun H2 s2 => ?_⟩
  exact q _ (by fail "kp")
def sp_behind (K : PySem.W.Frag) : Sp := fun vs H Q _ => ∃ (n : Nat) (b : Addr) (ts : List Addr) (cs : List Cmd), vs = [.int n, .ref b] ∧ 1 ≤ n ∧ n ≤ 1000 ∧ SqL K H b (ts.map V.ref) ∧ Cm H ts cs ∧ Fits n cs ∧
  ∀ (H' : Hp) (p : Addr) (us : List Addr), Same H H' → H p = none → H' p = some (.lst (us.map V.ref)) → Cm H' us ((behM n cs).map fun k => (k, k + 1)) → Q (.ref p) H'
theorem ok_behind (T : Txt K mg) : FnG P w K mg base CX0 5 T.behind_a T.behind_d ["size", "commands"] (sp_behind K) := by
  refine okG T.behind_F sc_behind (fun vs H Q E h => ?_) (fun cdv A ou t H vs Q E hG hr h => ?_)
  · obtain ⟨_, _, _, _, rfl, _⟩ := h; rfl
  have nd := sc_behind.nd
  obtain ⟨n, b, ts, cs, rfl, hn, hn2, hB, hC, hF, q⟩ := h
  refine ⟨_, (pss_cons (sset 2 nd (pe_callG (ok_effect T) hG (hr.mono (by decide)) (by rfl) T.effect_g T.effect_F.kp T.effect_b .nil pass0 (pa_cons (pv 0) (pa_cons (pv 1) pa_nil))))
      (pss_cons (ps_setLc (i := 3) (hy := rfl) (hyl := rfl) (hsw := sw_true rfl rfl rfl (by decide +kernel)) (own := [("value", 4)]) (hc := rfl) (hN := nd) (hi := (pi_listK K (pv 2))) (ok := blkOk_by (by rfl)) (hg := fun _ _ _ _ _ => (gset 4 nd)) (ht := (fun _ _ _ _ _ => pts_nil)) (he := fun _ _ _ _ _ => (pe_op op_sub (pe_op op_add (pv 0) pe_int) (pv 4))))
      (pss_one (ps_ret (pe_revLK K (pe_callG (ok_exchanges T) hG (hr.mono (by decide)) (by rfl) T.exchanges_g T.exchanges_F.kp T.exchanges_b .nil pass0 (pa_cons (pv 3) pa_nil))))))), ?_⟩
  have hE := run_perm_n (desc_perm n) hF
  have hEl := perm_len hE
  fail "ww"
  refine ⟨n, b, ts, cs, (), rfl, hn, hn2, hB, hC, hF, fun H1 p s1 np hp => ?_⟩
  have hb : behM n cs = (exM (mir n (runM (desc n) cs))).reverse := rfl
  generalize runM (desc n) cs = E at hp hE hEl hb
  fail "ww"
  intro D nD
  refine lc_sameAI (walk_list (xs := E.map V.int)) (fun i => (mir n (E.take i)).map V.int) nD (Same.refl _) rfl (fun Hx sx => by fail "kp") (fun i Hx hi pp => ?_) (fun H2 s2 hD => ?_)
  · fail "ww"
    refine ⟨rfl, ?_⟩
    fail "ww"
    exact lc_add pp (Same.refl _) nD (by unfold mir; rw [take_one hi, List.map_append, List.map_append]; rfl) (by rw [List.length_map, mir_len, List.length_take]; exact size_lt (by omega))
  · rw [List.take_of_length_le (Nat.le_refl _)] at hD
    have hM := mir_perm hE
    have hMl := perm_len hM
    fail "ww"
    refine ⟨D, mir n E, rfl, sq hD, by rw [hMl]; exact hM, by omega, by omega, fun H3 p3 ts3 ps s3 np3 _ h3 c3 st lv hpl hps => ?_⟩
    fail "ww"
    refine new_ fun p4 H4 n4 s4 h4 => ?_
    rw [← List.map_reverse] at h4
    refine q _ p4 _ (by fail "kp") (by fail "kpz") h4 ?_
    rw [hb, ← hps, List.map_reverse]
    exact (c3.same s4).back
def sp_missing_ahead (K : PySem.W.Frag) : Sp := fun vs H Q _ => ∃ (n : Nat) (b : Addr) (ts : List Addr) (cs : List Cmd), vs = [.int n, .ref b] ∧ 1 ≤ n ∧ n ≤ 1000 ∧ SqL K H b (ts.map V.ref) ∧ Cm H ts cs ∧ Fits n cs ∧ ∀ (H' : Hp), Same H H' → Q (.int (inv (runM (desc n) cs) : Nat)) H'
theorem ok_missing_ahead (T : Txt K mg) : FnG P w K mg base CX0 6 T.missing_ahead_a T.missing_ahead_d ["size", "commands"] (sp_missing_ahead K) := by
  refine okG T.missing_ahead_F sc_missing_ahead (fun vs H Q E h => ?_) (fun cdv A ou t H vs Q E hG hr h => ?_)
  · obtain ⟨_, _, _, _, rfl, _⟩ := h; rfl
  have nd := sc_missing_ahead.nd
  obtain ⟨n, b, ts, cs, rfl, hn, hn2, hB, hC, hF, q⟩ := h
  refine ⟨_, (pss_one (ps_ret (pe_callG (ok_missing_behind T) hG (hr.mono (by decide)) (by rfl) T.missing_behind_g T.missing_behind_F.kp T.missing_behind_b .nil pass0 (pa_cons (pv 0) (pa_cons (pv 1) pa_nil))))), ?_⟩
  fail "ww"
  exact ⟨n, b, ts, cs, rfl, hn, hn2, hB, hC, hF, q⟩
def sp_law_right (K : PySem.W.Frag) : Sp := fun vs H Q _ => ∃ (r : Addr) (n m : Nat), vs = [.ref r, .int n] ∧ Pol H r m ∧ m < 2 ^ 40 ∧ 1 ≤ n ∧ n ≤ 5 ∧ ∀ H', Sx r H H' → Pol H' r (m + 100) → Q (.bl true) H'
theorem ok_law_right (T : Txt K mg) : FnG P w K mg base CX0 7 T.law_right_a T.law_right_d ["pool", "wide"] (sp_law_right K) := by
  refine okG T.law_right_F sc_law_right (fun vs H Q E h => ?_) (fun cdv A ou t H vs Q E hG hr h => ?_)
  · obtain ⟨_, _, _, rfl, _⟩ := h; rfl
  have nd := sc_law_right.nd
  obtain ⟨r, n, m, rfl, hR, hm, hn1, hn, k⟩ := h
  refine ⟨_, (pss_cons (ps_asg (pe_tup (pa_cons (pe_callG (ok_law_steps T) hG (hr.mono (by decide)) (by rfl) T.law_steps_g T.law_steps_F.kp T.law_steps_b .nil pass0 (pa_cons (pv 0) (pa_cons (pv 1) (pa_cons pe_int pa_nil)))) (pa_cons (pe_listRg rfl (by rfl) T.m_list (prg_2 (by rfl) T.m_range pe_int (pe_op op_add (pv 1) pe_int))) pa_nil))) (pg_tupK K 2 rfl (pgs_cons (gset 2 nd) (pgs_cons (gset 3 nd) pgs_nil))))
      (pss_cons (ps_par (i := 4) (j := 5) (by rfl) nd rfl rfl (by decide) rfl rfl (pa_cons (pe_callB (reprK K hG hr.units) (by rfl) T.m_repr (by decide +kernel) (pa_cons (pv 2) pa_nil)) (pa_cons (pe_callG (ok_law_ran T) hG (hr.mono (by decide)) (by rfl) T.law_ran_g T.law_ran_F.kp T.law_ran_b .nil pass0 (pa_cons (pe_callG (ok_law_falling T) hG (hr.mono (by decide)) (by rfl) T.law_falling_g T.law_falling_F.kp T.law_falling_b .nil pass0 (pa_cons (pv 1) pa_nil)) (pa_cons (pv 2) pa_nil))) pa_nil)) (by rfl))
      (pss_cons (sset 6 nd (pe_callG (ok_law_reached T) hG (hr.mono (by decide)) (by rfl) T.law_reached_g T.law_reached_F.kp T.law_reached_b .nil pass0 (pa_cons (pe_callG (ok_law_falling T) hG (hr.mono (by decide)) (by rfl) T.law_falling_g T.law_falling_F.kp T.law_falling_b .nil pass0 (pa_cons (pv 1) pa_nil)) pa_nil)))
      (pss_cons (ps_lock (ps_setLc (i := 7) (hy := rfl) (hyl := rfl) (hsw := sw_true rfl rfl rfl (by decide +kernel)) (own := [("line_here", 13)]) (hc := rfl) (hN := nd) (hi := (pi_keys (pv 6))) (ok := blkOk_by (by rfl)) (hg := fun _ _ _ _ _ => (gset 13 nd)) (ht := (fun _ _ _ _ _ => pts_one (pt_cmpR (eqDK K hr.units) (pe_callG (ok_law_ran T) hG (hr.mono (by decide)) (by rfl) T.law_ran_g T.law_ran_F.kp T.law_ran_b .nil pass0 (pa_cons (pv 13) (pa_cons (pv 2) pa_nil))) (pv 3) (nomark _)))) (he := fun _ _ _ _ _ => (pe_dget (hu_of hr) (pv 6) (pv 13) (fun _ _ => rfl)))))
      (pss_cons (sset 8 nd (pe_lst (pa_cons (pe_dget (hu_of hr) (pe_callG (ok_law_reached T) hG (hr.mono (by decide)) (by rfl) T.law_reached_g T.law_reached_F.kp T.law_reached_b .nil pass0 (pa_cons (pv 5) pa_nil)) (pe_callTy (tupleK K) (by rfl) T.m_tuple (by decide +kernel) (pa_cons (pv 3) pa_nil)) (fun _ _ => rfl)) (pa_cons (pe_callB (minK K rfl) (by rfl) T.m_min (by decide +kernel) (pa_cons (pv 7) pa_nil)) pa_nil))))
      (pss_cons (sset 9 nd (pe_lst (pa_cons (pe_callG (ok_missing_behind T) hG (hr.mono (by decide)) (by rfl) T.missing_behind_g T.missing_behind_F.kp T.missing_behind_b .nil pass0 (pa_cons (pv 1) (pa_cons (pv 2) pa_nil))) (pa_cons (pe_callG (ok_missing_ahead T) hG (hr.mono (by decide)) (by rfl) T.missing_ahead_g T.missing_ahead_F.kp T.missing_ahead_b .nil pass0 (pa_cons (pv 1) (pa_cons (pv 2) pa_nil))) pa_nil))))
      (pss_cons (sset 10 nd (pe_lst (pa_cons (pe_callKG0 (ok_missing_behind T) hG (hr.mono (by decide)) (by rfl) T.missing_behind_g T.missing_behind_F.kp T.k_missing_behind_commands_size pass0 (pk_cons (pv 2) (pk_cons (pv 1) pk_nil))) (pa_cons (pe_callKG0 (ok_missing_ahead T) hG (hr.mono (by decide)) (by rfl) T.missing_ahead_g T.missing_ahead_F.kp T.k_missing_ahead_commands_size pass0 (pk_cons (pv 2) (pk_cons (pv 1) pk_nil))) pa_nil))))
      (pss_cons (ps_if (pt_cmpR op_ne (pe_callB (reprK K hG hr.units) (by rfl) T.m_repr (by decide +kernel) (pa_cons (pe_lst (pa_cons (pv 9) (pa_cons (pv 10) pa_nil))) pa_nil)) (pe_callB (reprK K hG hr.units) (by rfl) T.m_repr (by decide +kernel) (pa_cons (pe_lst (pa_cons (pv 8) (pa_cons (pv 8) pa_nil))) pa_nil)) (nomark _))
        (pss_one (ps_ret pe_bl))
        pss_nil)
      (pss_cons (ps_par (i := 11) (j := 12) (by rfl) nd rfl rfl (by decide) rfl rfl (pa_cons (pe_callG (ok_behind T) hG (hr.mono (by decide)) (by rfl) T.behind_g T.behind_F.kp T.behind_b .nil pass0 (pa_cons (pv 1) (pa_cons (pv 2) pa_nil))) (pa_cons (pe_callKG0 (ok_ahead T) hG (hr.mono (by decide)) (by rfl) T.ahead_g T.ahead_F.kp T.k_ahead_commands_size pass0 (pk_cons (pv 2) (pk_cons (pv 1) pk_nil))) pa_nil)) (by rfl))
      (pss_cons (ps_if (PW.pt (pw_or (pt_cmpR (neDK K hr.units) (pe_lst (pa_cons (pe_callB (lenK K) (by rfl) T.m_len PySem.boot_len (pa_cons (pv 11) pa_nil)) (pa_cons (pe_callB (lenK K) (by rfl) T.m_len PySem.boot_len (pa_cons (pv 12) pa_nil)) pa_nil))) (pv 8) (nomark _)) (pw_or1 (pt_cmpR (neDK K hr.units) (pe_lc (own := [("pair", 15)]) (hc := rfl) (hN := nd) (hi := (pi_listK K (pe_op op_cat (pv 11) (pv 12)))) (ok := blkOk_by (by rfl)) (hg := fun _ _ _ _ _ => (gset 15 nd)) (ht := (fun _ _ _ _ _ => pts_one (pt_cmpR op_ne (pe_ix (ix_tupK K) (pv 15) pe_int (fun _ _ => rfl)) (pe_op op_add (pe_ix (ix_tupK K) (pv 15) pe_int (fun _ _ => rfl)) pe_int) (nomark _)))) (he := fun _ _ _ _ _ => (pv 15))) (pe_lst pa_nil) (nomark _)))))
        (pss_one (ps_ret pe_bl))
        pss_nil)
      (pss_cons (ps_for PassesOwn.never rfl (pi_listK K (pe_callG (ok_law_every T) hG (hr.mono (by decide)) (by rfl) T.law_every_g T.law_every_F.kp T.law_every_b .nil pass0 (pa_cons (pv 1) pa_nil))) (gset 13 nd)
        (pss_one (ps_if (pt_cmpR (neDK K hr.units) (pe_lst (pa_cons (pe_callG (ok_law_ran T) hG (hr.mono (by decide)) (by rfl) T.law_ran_g T.law_ran_F.kp T.law_ran_b .nil pass0 (pa_cons (pv 13) (pa_cons (pe_op op_cat (pv 2) (pv 11)) pa_nil))) (pa_cons (pe_callG (ok_law_ran T) hG (hr.mono (by decide)) (by rfl) T.law_ran_g T.law_ran_F.kp T.law_ran_b .nil pass0 (pa_cons (pv 13) (pa_cons (pe_op op_cat (pv 12) (pv 2)) pa_nil))) pa_nil))) (pe_lst (pa_cons (pv 3) (pa_cons (pv 3) pa_nil))) (nomark _))
        (pss_one (ps_ret pe_bl))
        pss_nil)))
      (pss_cons (ps_expr (pe_bmK K PySem.F.plainAttrs_list PySem.F.slot_list_append PySem.F.type_list_append mt_append (pv 11) (pa_cons (pe_tup (pa_cons pe_int (pa_cons pe_int pa_nil))) pa_nil)))
      (pss_cons (ps_expr (pe_bmK K PySem.F.plainAttrs_list PySem.F.slot_list_append PySem.F.type_list_append mt_append (pv 12) (pa_cons (pe_tup (pa_cons pe_int (pa_cons pe_int pa_nil))) pa_nil)))
      (pss_cons (sset 14 nd (pe_lst (pa_cons (pe_callB (lenK K) (by rfl) T.m_len PySem.boot_len (pa_cons (pe_callKG0 (ok_behind T) hG (hr.mono (by decide)) (by rfl) T.behind_g T.behind_F.kp T.k_behind_commands_size pass0 (pk_cons (pv 2) (pk_cons (pv 1) pk_nil))) pa_nil)) (pa_cons (pe_callB (lenK K) (by rfl) T.m_len PySem.boot_len (pa_cons (pe_callG (ok_ahead T) hG (hr.mono (by decide)) (by rfl) T.ahead_g T.ahead_F.kp T.ahead_b .nil pass0 (pa_cons (pv 1) (pa_cons (pv 2) pa_nil))) pa_nil)) pa_nil))))
      (pss_one (ps_ret (pe_and (pe_cmpR (eqDK K hr.units) (pv 14) (pv 8) (nomark _)) (pe_one (pe_cmpR op_eq (pe_callB (reprK K hG hr.units) (by rfl) T.m_repr (by decide +kernel) (pa_cons (pv 2) pa_nil)) (pv 4) (nomark _)))))))))))))))))))), ?_⟩
  fail "ww"
  refine ⟨r, n, 6, _, rfl, hR, hn1, by omega, by omega, by omega, fun H1 S ts cs s1 nS hR1 hS hC hF hcl => ?_⟩
  have hSr := hR.ne nS
  fail "ww"
  refine ⟨RgOk.of_le (by omega) (by omega) (by omega) (by omega), new_map (rg_upTo n) (new_ fun pu H2 n2 s2 h2 => ?_)⟩
  fail "ww"
  refine new_ fun tp H3 n3 s3 h3 => ?_
  refine r_gtup (sqT h3) rfl ?_
  have s23 := s2.trans s3
  have hS3 := s23 _ _ hS
  have hC3 := hC.same s23
  have hu3 := s3 _ _ h2
  have hR3 := hR1.same s23
  have x3 := s1.same s23
  clear s1 nS s2 s3 s23 h2 h3 n2 n3 hR1 hS hC
  fail "ww"
  refine n_reprC (sq hS3) hC3 hF (by omega) (by omega) ?_
  fail "ww"
  refine ⟨n, rfl, by omega, fun H4 p4 s4 n4 h4 => ?_⟩
  fail "ww"
  refine ⟨p4, S, desc n, ts, cs, rfl, .inl (sq h4), sq (s4 _ _ hS3), hC3.same s4, by rw [desc_len]; omega, by rw [desc_len]; exact hF, fun H5 pm s5 n5 h5 => ?_⟩
  fail "ww"
  obtain ⟨E, hE⟩ : ∃ E, runM (desc n) cs = E := ⟨_, rfl⟩
  have hEp : E.Perm (ascN n) := by rw [← hE]; exact run_perm_n (desc_perm n) hF
  rw [hE] at h5
  have s35 := s4.trans s5
  refine ⟨n, rfl, by omega, fun H6 p6 s6 n6 h6 => ?_⟩
  fail "ww"
  refine ⟨p6, desc n, n, rfl, h6, desc_perm n, hn1, hn, fun H7 pf F s7 npf hpf hG hKw hFl => ?_⟩
  have s37 := s35.trans (s6.trans s7)
  have hS7 := s37 _ _ hS3
  have hC7 := hC3.same s37
  have hu7 := s37 _ _ hu3
  have hR7 := hR3.same s37
  have x7 := x3.same s37
  have hm7 := (s6.trans s7) _ _ h5
  have hpfr : pf ≠ r := (hR3.same (s35.trans s6)).ne npf
  have hpfS : pf ≠ S := (ne_of_none ((s35.trans s6) _ _ hS3) npf).symm
  have hpfu : pf ≠ pu := (ne_of_none ((s35.trans s6) _ _ hu3) npf).symm
  have hpfm : pf ≠ pm := (ne_of_none (s6 _ _ h5) npf).symm
  have npfH : H pf = none := (hR3.same (s35.trans s6)).free (x3.same (s35.trans s6)) npf
  clear s4 s5 s6 s7 s35 s37 n4 n5 n6 h4 h6 h5 hS3 hC3 hu3 hR3 x3 npf
  fail "ww"
  refine ⟨pf, _, hpf, True.intro, fun od => ?_⟩
  have hfz : (upd H7 pf (.frz od (.dT (fkv F)))) pf = some (.frz od (.dT (fkv F))) := upd_same
  have hS8 := upd_to (o := HO.frz od (.dT (fkv F))) hpfS.symm hS7
  have hu8 := upd_to (o := HO.frz od (.dT (fkv F))) hpfu.symm hu7
  have hm8 := upd_to (o := HO.frz od (.dT (fkv F))) hpfm.symm hm7
  have cmd : ∀ {Hx : Hp} {o u : HO}, Cm Hx ts cs → Hx pf = some u → (∀ xs, u ≠ .tup xs) → Cm (upd Hx pf o) ts cs := fun hc hp hu => ⟨hc.len, fun i t e => let ⟨c, e1, e2⟩ := hc.at_ i t e; ⟨c, e1, upd_to (ne_of e2 hp (fun z => hu _ z.symm)) e2⟩⟩
  have hC8 : Cm (upd H7 pf (.frz od (.dT (fkv F)))) ts cs := cmd hC7 hpf (fun xs z => by cases z)
  have hR8 := hR7.other (o := HO.frz od (.dT (fkv F))) hpfr
  have x8 : Sx r H7 (upd H7 pf (.frz od (.dT (fkv F)))) → True := fun _ => trivial
  clear x8
  have x8 : Sx r H (upd H7 pf (.frz od (.dT (fkv F)))) := x7.old npfH
  generalize upd H7 pf (.frz od (.dT (fkv F))) = H8 at hfz hS8 hu8 hm8 hC8 hR8 x8 ⊢
  clear hS7 hu7 hm7 hC7 hR7 x7 hpf
  fail "ww"
  show tVar 6 _ _ _
  fail "ww"
  refine ⟨pf, od, rfl, .inr ⟨fkv F, hfz, ?_⟩⟩
  intro D nD
  have hDpf : D ≠ pf := (ne_of_none hfz nD).symm
  have hDr : D ≠ r := hR8.ne nD
  refine lc_it Xk.walk_keysT (fun i Hh => Same H8 Hh ∧ Hh D = some (.lst (((F.take i).filter (fun p => decide (runM p.1 cs = ascN n))).map (fun p => V.int (p.2 : Int))))) ⟨same_new nD, upd_same⟩ (fun i Hh _ p => p.1 _ _ hfz) (fun i x Hh Hh' hi p y => ?_) (fun Hh p => ?_)
  · obtain ⟨rfl, kk, v, qq, ek, rfl, hqq⟩ := y
    have hfl : (fkv F).length = F.length := List.length_map ..
    have hiF : i < F.length := by rw [← hfl]; exact hi
    have ek' : (fkv F)[i]? = some (F[i].1.map Sum.inl, V.int (F[i].2 : Int)) := by
      unfold fkv; rw [List.getElem?_map, List.getElem?_eq_getElem hiF]; rfl
    rw [ek'] at ek
    cases ek
    rw [key_v] at hqq
    have hmem := List.getElem_mem hiF
    have hlb : ((F.take i).filter (fun p => decide (runM p.1 cs = ascN n))).length ≤ 10000000 := Nat.le_trans (List.length_filter_le _ _) (by rw [List.length_take]; omega)
    rw [take_one hiF, List.filter_append, List.map_append]
    generalize F[i] = fd at hqq hmem ⊢
    obtain ⟨l, dd⟩ := fd
    have hv := val_of hG hmem
    obtain ⟨hlp, hld⟩ := hG _ hmem
    have hll : l.length = n := by rw [hlp.length_eq]; simp [ascN]
    fail "ww"
    refine ⟨rfl, ?_⟩
    fail "ww"
    refine ⟨qq, S, l, ts, cs, rfl, .inr (sqT hqq), sq (p.1 _ _ hS8), hC8.same p.1, by omega, by rw [hll]; exact hF, fun G1 v1 t1 m1 g1 => ?_⟩
    fail "ww"
    have tt := p.1.trans t1
    refine r_eqL (sq g1) (sq (tt _ _ hu8)) ?_
    fail "ww"
    by_cases gg : runM l cs = ascN n
    · rw [decide_eq_true gg]
      fail "ww"
      refine r_dgetT ?_
      fail "ww"
      refine ⟨pf, _, rfl, .inr ⟨fkv F, l.map Sum.inl, qq, .inr ⟨od, tt _ _ hfz⟩, rfl, by rw [key_v]; exact t1 _ _ hqq, hv.symm⟩, ?_⟩
      refine ⟨_, t1 _ _ p.2, by rw [List.length_map]; exact size_lt (by omega), same_old tt nD, ?_⟩
      rw [upd_same, List.filter_cons_of_pos (by simp only; rw [decide_eq_true gg])]; rfl
    · rw [decide_eq_false gg]
      fail "ww"
      refine ⟨tt, ?_⟩
      rw [List.filter_cons_of_neg (by simp only; rw [decide_eq_false gg]; decide), List.filter_nil, List.map_nil, List.append_nil]
      exact t1 _ _ p.2
  · obtain ⟨s9, hD⟩ := p
    rw [show (fkv F).length = F.length from List.length_map .., List.take_of_length_le (Nat.le_refl _)] at hD
    refine ⟨s9 _ _ hfz, ?_⟩
    dsimp only
    have hfz9 := s9 _ _ hfz
    have hD10 := upd_to (o := HO.dT (fkv F)) hDpf hD
    have hS10 := upd_to (o := HO.dT (fkv F)) hpfS.symm (s9 _ _ hS8)
    have hu10 := upd_to (o := HO.dT (fkv F)) hpfu.symm (s9 _ _ hu8)
    have hm10 := upd_to (o := HO.dT (fkv F)) hpfm.symm (s9 _ _ hm8)
    have hC10 : Cm (upd Hh pf (.dT (fkv F))) ts cs := cmd (hC8.same s9) hfz9 (fun xs z => by cases z)
    have hR10 := (hR8.same s9).other (o := .dT (fkv F)) hpfr
    have x10 : Sx r H (upd Hh pf (.dT (fkv F))) := (x8.same s9).old npfH
    generalize upd Hh pf (.dT (fkv F)) = H10 at hD10 hS10 hu10 hm10 hC10 hR10 x10 ⊢
    clear s9 hD hfz hfz9 hS8 hu8 hm8 hC8 hR8 x8 nD cmd
    fail "ww"
    refine r_dgetT ?_
    fail "ww"
    refine ⟨pm, E, n, rfl, hm10, hEp, hn1, hn, fun H11 pg F2 s11 npg hpg hG2 hKw2 hFl2 => ?_⟩
    fail "ww"
    refine n_tupOf (sq (s11 _ _ hu10)) (new_ fun q1 H12 n12 s12 h12 => ?_)
    obtain ⟨b1, b2, b3, b4⟩ := beh_facts hn1 hF
    obtain ⟨a1, a2, a3, a4, a5⟩ := ahd_facts hn1 hF
    rw [hE] at b2 b4 a4
    have ka := hKw2 (behM n cs) b1
    rw [b2] at ka
    obtain ⟨d2, hd2⟩ := ka.mem
    have hd2e : d2 = inv E := by
      have := (hG2 _ hd2).2
      have z : d2 + inv (ascN n) = inv E := this
      rw [inv_asc0] at z; omega
    have hv2 := val_of hG2 hd2
    refine ⟨pg, _, rfl, .inr ⟨fkv F2, (ascN n).map Sum.inl, q1, .inl (s12 _ _ hpg), rfl, by rw [key_v]; exact h12, hv2.symm⟩, ?_⟩
    rw [hd2e]
    have s1012 := s11.trans s12
    have hD12 := s1012 _ _ hD10
    have hS12 := s1012 _ _ hS10
    have hu12 := s1012 _ _ hu10
    have hC12 := hC10.same s1012
    have hR12 := hR10.same s1012
    have x12 := x10.same s1012
    clear s11 s12 s1012 hD10 hS10 hu10 hm10 hC10 hR10 x10 npg hpg h12 n12 hv2 hd2 ka
    have kG := hKw (ahdM n cs) a1
    rw [a2] at kG
    obtain ⟨dG, hdG⟩ := kG.mem
    have hdGe : dG = inv E := by
      have z : dG + inv (backM cs (ascN n)) = inv (desc n) := (hG _ hdG).2
      have w := inv_back hn1 hF
      rw [hE] at w; omega
    have hDm : H12 D = some (.lst (((F.filter (fun p => decide (runM p.1 cs = ascN n))).map (fun p => (p.2 : Int))).map V.int)) := by rw [List.map_map]; exact hD12
    have hGin : ((inv E : Nat) : Int) ∈ (F.filter (fun p => decide (runM p.1 cs = ascN n))).map (fun p => (p.2 : Int)) := List.mem_map.mpr ⟨(backM cs (ascN n), dG), List.mem_filter.mpr ⟨hdG, by simp only; rw [decide_eq_true a5]⟩, by rw [← hdGe]⟩
    fail "ww"
    refine ⟨D, _, rfl, sq hDm, List.length_pos_of_mem hGin, fun mm hmm hle => ?_⟩
    have hmE : mm = ((inv E : Nat) : Int) := by
      obtain ⟨⟨x, d⟩, hx, rfl⟩ := List.mem_map.mp hmm
      obtain ⟨hx1, hx2⟩ := List.mem_filter.mp hx
      obtain ⟨hxp, hxd⟩ := hG _ hx1
      have l1 := fit_le hn1 hF hxp (of_decide_eq_true hx2) hxd
      rw [hE] at l1
      have l2 := hle _ hGin
      have l2' : (d : Int) ≤ ((inv E : Nat) : Int) := l2
      show (d : Int) = _
      omega
    rw [hmE]
    clear hmE hmm hle hDm hD12
    fail "ww"
    refine new_ fun pe H13 n13 s13 h13 => ?_
    have hS13 := s13 _ _ hS12
    have hC13 := hC12.same s13
    fail "ww"
    refine ⟨n, S, ts, cs, rfl, hn1, by omega, sq hS13, hC13, hF, fun H14 s14 => ?_⟩
    fail "ww"
    refine ⟨n, S, ts, cs, rfl, hn1, by omega, sq (s14 _ _ hS13), hC13.same s14, hF, fun H15 s15 => ?_⟩
    rw [hE]
    fail "ww"
    refine new_ fun pT H16 n16 s16 h16 => ?_
    have s1316 := s14.trans (s15.trans s16)
    have hS16 := s1316 _ _ hS13
    have hC16 := hC13.same s1316
    have hpe16 := s1316 _ _ h13
    fail "ww"
    refine ⟨n, S, ts, cs, rfl, hn1, by omega, sq hS16, hC16, hF, fun H17 s17 => ?_⟩
    fail "ww"
    refine ⟨n, S, ts, cs, rfl, hn1, by omega, sq (s17 _ _ hS16), hC16.same s17, hF, fun H18 s18 => ?_⟩
    rw [hE]
    fail "ww"
    refine new_ fun pA H19 n19 s19 h19 => ?_
    have s1619 := s17.trans (s18.trans s19)
    have hS19 := s1619 _ _ hS16
    have hC19 := hC16.same s1619
    have hpe19 := s1619 _ _ hpe16
    have hpT19 := s1619 _ _ h16
    have hu19 := (s13.trans (s1316.trans s1619)) _ _ hu12
    have hR19 := hR12.same (s13.trans (s1316.trans s1619))
    have x19 := x12.same (s13.trans (s1316.trans s1619))
    clear s13 s14 s15 s16 s1316 s17 s18 s19 s1619 hS13 hC13 h13 hS16 hC16 hpe16 h16 hS12 hC12 hu12 hR12 x12 n13 n16 n19
    have he10 : inv E ≤ 100 := by
      have := asc_inv E (hEp.nodup_iff.mpr (asc_nodup n))
      have hEl : E.length = n := perm_len hEp
      rw [hEl] at this
      have : n * n ≤ 5 * 5 := Nat.mul_le_mul hn hn
      omega
    have shown : ∀ (Hx : Hp) (p a b : Addr), Hx p = some (.lst [.ref a, .ref b]) → Hx a = some (.lst [.int ((inv E : Nat) : Int), .int ((inv E : Nat) : Int)]) → Hx b = some (.lst [.int ((inv E : Nat) : Int), .int ((inv E : Nat) : Int)]) → ∀ Q' : VK, Q' (.str (PyData.list [dI [((inv E : Nat) : Int), ((inv E : Nat) : Int)], dI [((inv E : Nat) : Int), ((inv E : Nat) : Int)]]).shown) Hx → rReprD K [.ref p] Hx Q' := fun Hx p a b h1 h2 h3 Q' hq => by
      refine r_repr (d := .list [dI [((inv E : Nat) : Int), ((inv E : Nat) : Int)], dI [((inv E : Nat) : Int), ((inv E : Nat) : Int)]]) (.lst (sq h1) (.cons (dp_lst (ns := [((inv E : Nat) : Int), ((inv E : Nat) : Int)]) (sq h2)) (.cons (dp_lst (ns := [((inv E : Nat) : Int), ((inv E : Nat) : Int)]) (sq h3)) .nil))) (show 2 ≤ 60 by decide) (b := 2 * (100 + 2) + 2) ?_ (by decide) hq
      refine Sh.list (ds := [dI [((inv E : Nat) : Int), ((inv E : Nat) : Int)], dI [((inv E : Nat) : Int), ((inv E : Nat) : Int)]]) fun d hd => ?_
      have hs : Sh (2 * 34 + 2) (dI [((inv E : Nat) : Int), ((inv E : Nat) : Int)]) := Sh.ints (k := 31) (by decide) (by decide) fun x hx => by
        have : x = ((inv E : Nat) : Int) := by simpa using hx
        rw [this, Int.natAbs_natCast]
        exact Nat.lt_of_le_of_lt he10 (by decide)
      rcases List.mem_cons.mp hd with e | e
      · rw [e]; exact hs.mono (by decide)
      · rw [List.mem_singleton.mp e]; exact hs.mono (by decide)
    fail "ww"
    refine new_ fun w1 H20 n20 s20 h20 => ?_
    fail "ww"
    refine shown H20 w1 pT pA h20 (s20 _ _ hpT19) (s20 _ _ h19) _ ?_
    fail "ww"
    refine new_ fun w2 H21 n21 s21 h21 => ?_
    fail "ww"
    have s2021 := s20.trans s21
    refine shown H21 w2 pe pe h21 (s2021 _ _ hpe19) (s2021 _ _ hpe19) _ ?_
    fail "ww"
    refine r_itNF rfl ?_
    have hS21 := s2021 _ _ hS19
    have hC21 := hC19.same s2021
    have hpe21 := s2021 _ _ hpe19
    have hu21 := s2021 _ _ hu19
    have hR21 := hR19.same s2021
    have x21 := x19.same s2021
    clear s20 s21 s2021 h20 h21 n20 n21 hS19 hC19 hpe19 hu19 hR19 x19 hpT19 h19
    fail "ww"
    refine ⟨n, S, ts, cs, rfl, hn1, by omega, sq hS21, hC21, hF, fun H22 pl us s22 nl hl hUl => ?_⟩
    fail "ww"
    refine ⟨n, S, ts, cs, rfl, hn1, by omega, sq (s22 _ _ hS21), hC21.same s22, hF, fun H23 pq vs s23 nq hq hUq => ?_⟩
    have s2223 := s22.trans s23
    have hS23 := s2223 _ _ hS21
    have hC23 := hC21.same s2223
    have hpe23 := s2223 _ _ hpe21
    have hu23 := s2223 _ _ hu21
    have hR23 := hR21.same s2223
    have x23 := x21.same s2223
    have hl23 := s23 _ _ hl
    have hUl23 := hUl.same s23
    have hlr : pl ≠ r := hR21.ne nl
    have hqr : pq ≠ r := (hR21.same s22).ne nq
    have hlq : pl ≠ pq := ne_of_none hl nq
    have hlS : pl ≠ S := (ne_of_none hS21 nl).symm
    have hlH : H pl = none := hR21.free x21 nl
    have hqH : H pq = none := (hR21.same s22).free (x21.same s22) nq
    have hlpe : pe ≠ pl := ne_of_none hpe21 nl
    have hqpe : pe ≠ pq := ne_of_none (s22 _ _ hpe21) nq
    have hqS : S ≠ pq := ne_of_none (s22 _ _ hS21) nq
    have hul : us.length = inv E := by rw [hUl.len, List.length_map, b4]
    have hvl : vs.length = inv E := by rw [hUq.len, List.length_map, a4]
    clear s22 s23 s2223 hS21 hC21 hpe21 hu21 hR21 x21 hl hUl nl nq
    fail "ww"
    refine new_ fun w3 H24 n24 s24 h24 => ?_
    rw [List.length_map, List.length_map, hul, hvl] at h24
    fail "ww"
    refine r_neL (ns := [((inv E : Nat) : Int), ((inv E : Nat) : Int)]) (ms := [((inv E : Nat) : Int), ((inv E : Nat) : Int)]) (sq h24) (sq (s24 _ _ hpe23)) ?_
    fail "ww"
    refine r_itNF rfl ?_
    fail "ww"
    have hc2 : (us.map V.ref).length + (vs.map V.ref).length ≤ 16777216 := by rw [List.length_map, List.length_map]; exact size_le (by omega)
    refine n_cat (s24 _ _ hl23) (s24 _ _ hq) hc2 (new_ fun w4 H25 n25 s25 h25 => ?_)
    rw [← List.map_append] at h25
    have s2325 := s24.trans s25
    have hUU : Cm H25 (us ++ vs) ((behM n cs ++ ahdM n cs).map fun k => (k, k + 1)) := by rw [List.map_append]; exact (hUl23.same s2325).app (hUq.same s2325)
    refine ⟨w4, rfl, ⟨_, sq h25⟩, fun D4 nD4 => ?_⟩
    refine lc_same (walk_list (xs := (us ++ vs).map V.ref)) (fun _ => ([] : List Int).map V.int) nD4 (Same.refl _) rfl (fun Hx sx => sq (sx _ _ h25)) (fun i x Hx Hx' hi pp y => ?_) (fun H26 s26 hD4 => ?_)
    · obtain ⟨rfl, ex⟩ := y
      have hi' : i < ((behM n cs ++ ahdM n cs).map fun k => (k, k + 1)).length := by rw [← hUU.len]; simpa using hi
      obtain ⟨t, et, ht⟩ := (hUU.same pp.1).idx hi'
      rw [List.getElem?_map, et] at ex
      cases ex
      rw [List.getElem_map] at ht
      generalize (behM n cs ++ ahdM n cs)[i]'(by simpa using hi') = kk at ht
      fail "ww"
      refine ⟨rfl, ?_⟩
      fail "ww"
      refine r_ixT (sqT ht) (show atI _ (1 : Int) = some (V.int ((kk + 1 : Nat) : Int)) from rfl) ?_
      fail "ww"
      refine r_ixT (sqT ht) (show atI _ (0 : Int) = some (V.int (kk : Int)) from rfl) ?_
      fail "ww"
      rw [decide_eq_true (show ((kk + 1 : Nat) : Int) = (kk : Int) + 1 by omega)]
      fail "ww"
      exact pp
    have s2326 := s2325.trans s26
    have hS26 := s2326 _ _ hS23
    have hC26 := hC23.same s2326
    have hpe26 := s2326 _ _ hpe23
    have hu26 := s2326 _ _ hu23
    have hR26 := hR23.same s2326
    have x26 := x23.same s2326
    have hl26 := s2326 _ _ hl23
    have hUl26 := hUl23.same s2326
    have hq26 := s2326 _ _ hq
    have hUq26 := hUq.same s2326
    clear s24 s25 s26 s2325 s2326 hS23 hC23 hpe23 hu23 hR23 x23 hl23 hUl23 hq hUq h24 h25 n24 n25 hUU nD4
    fail "ww"
    refine new_ fun e0 H27 n27 s27 h27 => ?_
    refine r_neL (sq (s27 _ _ hD4)) (ms := []) (sq h27) ?_
    fail "ww"
    refine r_itNF rfl ?_
    fail "ww"
    refine ⟨n, rfl, hn1, by omega, fun H28 pE as s28 nE hpE hWE hAs => ?_⟩
    have s2628 := s27.trans s28
    have hS28 := s2628 _ _ hS26
    have hC28 := hC26.same s2628
    have hpe28 := s2628 _ _ hpe26
    have hu28 := s2628 _ _ hu26
    have hR28 := hR26.same s2628
    have x28 := x26.same s2628
    have hl28 := s2628 _ _ hl26
    have hUl28 := hUl26.same s2628
    have hq28 := s2628 _ _ hq26
    have hUq28 := hUq26.same s2628
    clear s27 s28 s2628 hS26 hC26 hpe26 hu26 hR26 x26 hl26 hUl26 hq26 hUq26 h27 n27 hD4
    have htl : ts.length ≤ 6 := by rw [hC28.len]; exact hcl
    have fb : Fits n (cs ++ (behM n cs).map fun k => (k, k + 1)) := fun c hc => (List.mem_append.mp hc).elim (hF c) (b1.fits c)
    have fa : Fits n ((ahdM n cs).map (fun k => (k, k + 1)) ++ cs) := fun c hc => (List.mem_append.mp hc).elim (a1.fits c) (hF c)
    fail "ww"
    refine forA (walk_list (xs := as.map V.ref)) (fun i σ' G => ∃ (y13 : Option V) (_u : Unit), σ' = [some (.ref r), some (.int (n : Int)), some (.ref S), some (.ref pu), some (.str (dC cs).shown), some (.ref pm), some (.ref pf), some (.ref D), some (.ref pe), some (.ref pT), some (.ref pA), some (.ref pl), some (.ref pq), y13, none, none] ∧ Same H28 G)
      ⟨none, (), rfl, Same.refl _⟩ (fun i σ' G _ p' => ?_) (fun i σ' G hi p' => ?_) (fun σ' G p' => ?_)
    · obtain ⟨_, _, _, s⟩ := p'; exact sq (s _ _ hpE)
    · obtain ⟨y13, _, rfl, s⟩ := p'
      have hi' : i < as.length := by simpa using hi
      obtain ⟨l, el, ht⟩ := (hWE.same s).at_ i _ (List.getElem?_eq_getElem hi')
      have e1 : (as.map V.ref)[i] = .ref as[i] := List.getElem_map ..
      have hlp : l.Perm (ascN n) := arr_perm (List.mem_of_getElem? el)
      have hll : l.length = n := by rw [hlp.length_eq]; simp [ascN]
      rw [e1]
      generalize as[i] = t at ht ⊢
      fail "ww"
      refine n_cat (s _ _ hS28) (s _ _ hl28) (by rw [List.length_map, List.length_map]; exact size_le (by omega)) (new_ fun v1 G1 m1 t1 g1 => ?_)
      rw [← List.map_append] at g1
      have u1 := s.trans t1
      refine ⟨t, v1, l, ts ++ us, _, rfl, .inl (sq (t1 _ _ ht)), sq g1, (hC28.same u1).app (hUl28.same u1), by omega, by rw [hll]; exact fb, fun G2 v2 t2 m2 g2 => ?_⟩
      rw [run_full hn1 fb (beh_full hn1 hF) hll, srt_asc hlp] at g2
      have u2 := u1.trans t2
      fail "ww"
      refine n_cat (u2 _ _ hq28) (u2 _ _ hS28) (by rw [List.length_map, List.length_map]; exact size_le (by omega)) (new_ fun v3 G3 m3 t3 g3 => ?_)
      rw [← List.map_append] at g3
      have u3 := u2.trans t3
      refine ⟨t, v3, l, vs ++ ts, _, rfl, .inl (sq ((t1.trans (t2.trans t3)) _ _ ht)), sq g3, (hUq28.same u3).app (hC28.same u3), by omega, by rw [hll]; exact fa, fun G4 v4 t4 m4 g4 => ?_⟩
      rw [run_full hn1 fa (ahd_full hn1 hF) hll, srt_asc hlp] at g4
      fail "ww"
      refine new_ fun v5 G5 m5 t5 g5 => ?_
      fail "ww"
      refine new_ fun v6 G6 m6 t6 g6 => ?_
      have u6 := u3.trans (t4.trans (t5.trans t6))
      have hu6 := u6 _ _ hu28
      refine r_neRw (as := [v2, v4]) (ls := [ascN n, ascN n]) (bs := [pu, pu]) (ms := [ascN n, ascN n]) (sq (t6 _ _ g5)) ((Rws.one ((t3.trans (t4.trans (t5.trans t6))) _ _ g2)).app (.one ((t5.trans t6) _ _ g4))) (sq g6) ((Rws.one hu6).app (.one hu6)) ?_
      fail "ww"
      refine r_itNF rfl ?_
      fail "ww"
      exact ⟨_, (), rfl, u6⟩
    · obtain ⟨y13, _, rfl, s⟩ := p'
      fail "ww"
      refine new_ fun z1 G1 m1 t1 g1 => ?_
      have u1 := s.trans t1
      fail "ww"
      refine r_append (u1 _ _ hl28) (size_lt (by rw [List.length_map]; omega)) ?_
      have xa : Sx r H (upd G1 pl (.lst (us.map V.ref ++ [V.ref z1]))) := (x28.same u1).old hlH
      have Ra := (hR28.same u1).other (o := .lst (us.map V.ref ++ [V.ref z1])) hlr
      have Sa := upd_to (o := .lst (us.map V.ref ++ [V.ref z1])) hlS.symm (u1 _ _ hS28)
      have Ca : Cm (upd G1 pl (.lst (us.map V.ref ++ [V.ref z1]))) ts cs := (hC28.same u1).put (u1 _ _ hl28)
      have qa := upd_to (o := .lst (us.map V.ref ++ [V.ref z1])) hlq.symm (u1 _ _ hq28)
      have ea := upd_to (o := .lst (us.map V.ref ++ [V.ref z1])) hlpe (u1 _ _ hpe28)
      generalize upd G1 pl (.lst (us.map V.ref ++ [V.ref z1])) = Ga at xa Ra Sa Ca qa ea ⊢
      clear s t1 u1 g1 m1 hS28 hC28 hpe28 hu28 hR28 x28 hl28 hUl28 hq28 hUq28 hWE hAs hpE
      fail "ww"
      refine new_ fun z2 G2 m2 t2 g2 => ?_
      fail "ww"
      refine r_append (t2 _ _ qa) (size_lt (by rw [List.length_map]; omega)) ?_
      have xb : Sx r H (upd G2 pq (.lst (vs.map V.ref ++ [V.ref z2]))) := (xa.same t2).old hqH
      have Rb := (Ra.same t2).other (o := .lst (vs.map V.ref ++ [V.ref z2])) hqr
      have Sb := upd_to (o := .lst (vs.map V.ref ++ [V.ref z2])) hqS (t2 _ _ Sa)
      have Cb : Cm (upd G2 pq (.lst (vs.map V.ref ++ [V.ref z2]))) ts cs := (Ca.same t2).put (t2 _ _ qa)
      have eb := upd_to (o := .lst (vs.map V.ref ++ [V.ref z2])) hqpe (t2 _ _ ea)
      generalize upd G2 pq (.lst (vs.map V.ref ++ [V.ref z2])) = Gb at xb Rb Sb Cb eb ⊢
      clear t2 g2 m2 xa Ra Sa Ca qa ea
      fail "ww"
      refine ⟨n, S, ts, cs, rfl, hn1, by omega, sq Sb, Cb, hF, fun G5 p5 us5 t5 n5 h5 hU5 => ?_⟩
      have l5 : us5.length = inv E := by rw [hU5.len, List.length_map, b4]
      fail "ww"
      refine ⟨n, S, ts, cs, rfl, hn1, by omega, sq (t5 _ _ Sb), Cb.same t5, hF, fun G6 p6' us6 t6 n6 h6 hU6 => ?_⟩
      have l6 : us6.length = inv E := by rw [hU6.len, List.length_map, a4]
      fail "ww"
      refine new_ fun pF G7 m7 t7 g7 => ?_
      rw [List.length_map, List.length_map, l5, l6] at g7
      have u7 := t5.trans (t6.trans t7)
      fail "ww"
      refine r_eqL (ns := [((inv E : Nat) : Int), ((inv E : Nat) : Int)]) (ms := [((inv E : Nat) : Int), ((inv E : Nat) : Int)]) (sq g7) (sq (u7 _ _ eb)) ?_
      rw [decide_eq_true rfl]
      fail "ww"
      refine n_reprC (sq (u7 _ _ Sb)) (Cb.same u7) hF (by omega) (by omega) ?_
      fail "ww"
      rw [decide_eq_true rfl]
      exact k _ (xb.same u7) ((Rb.same u7).le (by omega))
def sp_law (K : PySem.W.Frag) : Sp := fun vs H Q _ => ∃ (a : Addr) (ns : List Int), vs = [.ref a] ∧ SqL K H a (ns.map V.int) ∧ ns.length ≤ 63 ∧ ∀ H', Q (.bl true) H'
theorem ok_law (T : Txt K mg) : FnG P w K mg base CX0 8 T.law_a T.law_d ["script"] (sp_law K) := by
  refine okG T.law_F sc_law (fun vs H Q E h => ?_) (fun cdv A ou t H vs Q E hG hr h => ?_)
  · obtain ⟨_, _, rfl, _⟩ := h; rfl
  have nd := sc_law.nd
  obtain ⟨a, ns, rfl, hS, hlen, q⟩ := h
  refine ⟨_, (pss_cons (ps_for PassesOwn.never rfl (pi_range1 (by rfl) T.m_range (pa_cons (pe_callB (call_max2 rfl) (by rfl) T.m_max (by decide +kernel) (pa_cons pe_int (pa_cons (pe_callB (call_min2 rfl) (by rfl) T.m_min (by decide +kernel) (pa_cons pe_int (pa_cons (pe_callB (lenK K) (by rfl) T.m_len PySem.boot_len (pa_cons (pv 0) pa_nil)) pa_nil))) pa_nil))) pa_nil)) (gset 1 nd)
        (pss_cons (sset 2 nd (pe_callG (ok_law_pool T) hG (hr.mono (by decide)) (by rfl) T.law_pool_g T.law_pool_F.kp T.law_pool_b .nil pass0 (pa_cons (pv 0) (pa_cons (pv 1) pa_nil))))
      (pss_one (ps_for PassesOwn.never rfl (pi_range1 (by rfl) T.m_range (pa_cons pe_int pa_nil)) (gset 3 nd)
        (pss_one (ps_if (pt_not (pt_val (pe_callG (ok_law_right T) hG (hr.mono (by decide)) (by rfl) T.law_right_g T.law_right_F.kp T.law_right_b .nil pass0 (pa_cons (pv 2) (pa_cons (pe_op op_add pe_int (pe_callG (ok_law_draw T) hG (hr.mono (by decide)) (by rfl) T.law_draw_g T.law_draw_F.kp T.law_draw_b .nil pass0 (pa_cons (pv 2) (pa_cons pe_int pa_nil)))) pa_nil)))))
        (pss_one (ps_ret pe_bl))
        pss_nil))))))
      (pss_cons (sset 4 nd (pe_lst (pa_cons (pe_tup (pa_cons pe_int (pa_cons pe_int pa_nil))) (pa_cons (pe_tup (pa_cons pe_int (pa_cons pe_int pa_nil))) pa_nil))))
      (pss_one (ps_ret (pe_cmpR (eqDK K hr.units) (pe_lst (pa_cons (pe_callG (ok_missing_behind T) hG (hr.mono (by decide)) (by rfl) T.missing_behind_g T.missing_behind_F.kp T.missing_behind_b .nil pass0 (pa_cons pe_int (pa_cons (pv 4) pa_nil))) (pa_cons (pe_callG (ok_missing_ahead T) hG (hr.mono (by decide)) (by rfl) T.missing_ahead_g T.missing_ahead_F.kp T.missing_ahead_b .nil pass0 (pa_cons pe_int (pa_cons (pv 4) pa_nil))) (pa_cons (pe_callG (ok_behind T) hG (hr.mono (by decide)) (by rfl) T.behind_g T.behind_F.kp T.behind_b .nil pass0 (pa_cons pe_int (pa_cons (pe_lst pa_nil) pa_nil))) (pa_cons (pe_callG (ok_ahead T) hG (hr.mono (by decide)) (by rfl) T.ahead_g T.ahead_F.kp T.ahead_b .nil pass0 (pa_cons pe_int (pa_cons (pe_lst (pa_cons (pe_tup (pa_cons pe_int (pa_cons pe_int pa_nil))) pa_nil)) pa_nil))) pa_nil))))) (pe_lst (pa_cons pe_int (pa_cons pe_int (pa_cons (pe_lst pa_nil) (pa_cons (pe_lst pa_nil) pa_nil))))) (nomark _)))))), ?_⟩
  fail "ww"
  rw [List.length_map]
  obtain ⟨N, hN, hN2⟩ : ∃ N : Nat, (if (if ((ns.length : Nat) : Int) < 5 then ((ns.length : Nat) : Int) else 5) > 1 then (if ((ns.length : Nat) : Int) < 5 then ((ns.length : Nat) : Int) else 5) else 1) = (N : Int) ∧ N ≤ 5 := by
    refine ⟨(if (if ((ns.length : Nat) : Int) < 5 then ((ns.length : Nat) : Int) else 5) > 1 then (if ((ns.length : Nat) : Int) < 5 then ((ns.length : Nat) : Int) else 5) else 1).toNat, ?_, ?_⟩ <;> split <;> split <;> omega
  rw [hN]
  refine ⟨by omega, by omega, ?_⟩
  refine forF walk_range (fun i σ' H' => ∃ (y1 y2 y3 y4 : Option V) (_u : Unit), σ' = [some (.ref a), y1, y2, y3, y4] ∧ Same H H')
    ⟨none, none, none, none, (), rfl, Same.refl _⟩ (fun _ _ _ _ _ => trivial) (fun i σ' H' hi p => ?_) (fun σ' H' p => ?_)
  · obtain ⟨y1, y2, y3, y4, _, rfl, s⟩ := p
    fail "ww"
    have hi8 : i < 5 := by omega
    rw [show (0 : Int) + (i : Int) = ((i : Nat) : Int) by omega]
    refine ⟨a, ns, i, rfl, by fail "kp", by omega, fun H1 r s1 nr hR => ?_⟩
    have nr0 : H r = none := by fail "kpz"
    fail "ww"
    refine ⟨by omega, by omega, ?_⟩
    have s01 : Same H H1 := by fail "kp"
    refine forF walk_range (fun j σ' H' => ∃ (y3 y4 : Option V) (_u : Unit), σ' = [some (.ref a), some (.int (i : Int)), some (.ref r), y3, y4] ∧ Pol H' r (200 * j) ∧ Sx r H H')
      ⟨y3, y4, (), rfl, hR, sx_of s01⟩ (fun _ _ _ _ _ => trivial) (fun j σ' H' hj p => ?_) (fun σ' H' p => ?_)
    · obtain ⟨y3, y4, _, rfl, hRj, sj⟩ := p
      have hj6 : j < 4 := hj
      fail "ww"
      refine ⟨r, 5, _, rfl, hRj, by omega, by decide, by decide, fun H6 d hd0 hd1 s6 hR6 => ?_⟩
      obtain ⟨e, rfl⟩ := Int.eq_ofNat_of_zero_le hd0
      fail "ww"
      rw [show (1:Int) + (e:Int) = ((1+e : Nat) : Int) by omega]
      refine ⟨r, 1+e, _, rfl, hR6, by omega, by omega, by omega, fun H7 s7 hR7 => ?_⟩
      fail "ww"
      exact ⟨_, _, (), rfl, hR7.le (by omega), sj.trans (s6.trans s7)⟩
    · obtain ⟨y3, y4, _, rfl, hRj, sj⟩ := p
      fail "ww"
      refine ⟨_, _, _, _, (), rfl, fun b o e => ?_⟩
      exact sj b o (ne_of_none e nr0) e
  · obtain ⟨y1, y2, y3, y4, _, rfl, s⟩ := p
    clear s hS
    fail "ww"
    refine new_ fun t1 H1 n1 s1 g1 => ?_
    fail "ww"
    refine new_ fun t2 H2 n2 s2 g2 => ?_
    fail "ww"
    refine new_ fun b H3 n3 s3 g3 => ?_
    have hB : Cm H3 [t1, t2] [((1, 2) : Cmd), (2, 3)] := ⟨rfl, fun i t e => by
      cases i with
      | zero => cases e; exact ⟨(1, 2), rfl, s3 _ _ (s2 _ _ g1)⟩
      | succ i =>
        cases i with
        | zero => cases e; exact ⟨(2, 3), rfl, s3 _ _ g2⟩
        | succ i => simp at e⟩
    have fB : Fits 3 [((1, 2) : Cmd), (2, 3)] := by unfold Fits; decide
    fail "ww"
    refine ⟨3, b, [t1, t2], _, rfl, by decide, by decide, sq g3, hB, fB, fun H4 s4 => ?_⟩
    rw [show inv (runM (desc 3) [((1, 2) : Cmd), (2, 3)]) = 1 by decide]
    fail "ww"
    refine ⟨3, b, [t1, t2], _, rfl, by decide, by decide, sq (s4 _ _ g3), hB.same s4, fB, fun H5 s5 => ?_⟩
    rw [show inv (runM (desc 3) [((1, 2) : Cmd), (2, 3)]) = 1 by decide]
    fail "ww"
    refine new_ fun e1 H6 n6 s6 g6 => ?_
    fail "ww"
    refine ⟨1, e1, [], [], rfl, by decide, by decide, sq g6, ⟨rfl, fun i t e => by simp at e⟩, (fun c hc => by cases hc), fun H7 p7 us7 s7 n7 g7 hU7 => ?_⟩
    have l7 : us7 = [] := List.eq_nil_of_length_eq_zero (by rw [hU7.len, List.length_map, (beh_facts (n := 1) (cs := []) (by decide) (fun c hc => by cases hc)).2.2.2]; decide)
    subst l7
    fail "ww"
    refine new_ fun t3 H8 n8 s8 g8 => ?_
    fail "ww"
    refine new_ fun b2 H9 n9 s9 g9 => ?_
    have hB2 : Cm H9 [t3] [((1, 2) : Cmd)] := ⟨rfl, fun i t e => by
      cases i with
      | zero => cases e; exact ⟨(1, 2), rfl, s9 _ _ g8⟩
      | succ i => simp at e⟩
    have fB2 : Fits 2 [((1, 2) : Cmd)] := by unfold Fits; decide
    fail "ww"
    refine ⟨2, b2, [t3], _, rfl, by decide, by decide, sq g9, hB2, fB2, fun H10 p10 us10 s10 n10 g10 hU10 => ?_⟩
    have l10 : us10 = [] := List.eq_nil_of_length_eq_zero (by rw [hU10.len, List.length_map, (ahd_facts (n := 2) (by decide) fB2).2.2.2.1]; decide)
    subst l10
    fail "ww"
    have p7' := (s8.trans (s9.trans s10)) _ _ g7
    refine new_ fun D1 H11 n11 s11 h11 => ?_
    fail "ww"
    refine new_ fun e3 H12 n12 s12 h12 => ?_
    fail "ww"
    refine new_ fun e4 H13 n13 s13 h13 => ?_
    fail "ww"
    refine new_ fun E1 H14 n14 s14 h14 => ?_
    have sh : SeqAt.shaped (.list [.int 1, .int 1, .list [], .list []]) = true := by decide
    refine ⟨.list [.int 1, .int 1, .list [], .list []], .list [.int 1, .int 1, .list [], .list []], ?_, ?_, sh, sh, ?_⟩
    · exact .lst (sq ((s12.trans (s13.trans s14)) _ _ h11)) (.cons (.int _) (.cons (.int _) (.cons (.lst (sq ((s11.trans (s12.trans (s13.trans s14))) _ _ p7')) .nil) (.cons (.lst (sq ((s11.trans (s12.trans (s13.trans s14))) _ _ g10)) .nil) .nil))))
    · exact .lst (sq h14) (.cons (.int _) (.cons (.int _) (.cons (.lst (sq ((s13.trans s14) _ _ h12)) .nil) (.cons (.lst (sq (s14 _ _ h13)) .nil) .nil))))
    rw [SeqAt.eqv_refl _ (SeqAt.canLay_of_shaped sh)]
    exact q _
end
theorem all_mk {w : World} {K : PySem.W.Frag} {h : Heap} {mg : Str → Option Value} {l : PySem.W.OpenLaw} {fa f_check_size f_check_script f_check_arrangement f_sort_stretches f_inversions f_descending_row f_exchange_places f_law_pool f_law_draw f_law_ran f_law_falling f_law_every f_check_sized_script f_greatest_before f_exchanges f_law_steps f_law_reached f_run f_greatest_row f_effect f_ahead f_missing_behind f_behind f_missing_ahead f_law_right f_law : Addr} (X : K.In h) (G : h.Ns mainGlobals mg) (hfa : mg "law" = some (.ref fa))
    {od0 an0 od1 an1 od2 an2 od3 an3 od4 an4 od5 an5 od6 an6 od7 an7 od8 an8 od9 an9 od10 an10 od11 an11 od12 an12 od13 an13 od14 an14 od15 an15 od16 an16 od17 an17 od18 an18 od19 an19 od20 an20 od21 an21 od22 an22 od23 an23 od24 an24 od25 an25 : Option Addr} {sl0 sl1 sl2 sl3 sl4 sl5 sl6 sl7 sl8 sl9 sl10 sl11 sl12 sl13 sl14 sl15 sl16 sl17 sl18 sl19 sl20 sl21 sl22 sl23 sl24 sl25 : Array (Option Value)} {oc0 kV0 dc0 pm0 cd0 ct0 oc1 kV1 dc1 pm1 cd1 ct1 oc2 kV2 dc2 pm2 cd2 ct2 oc3 kV3 dc3 pm3 cd3 ct3 oc4 kV4 dc4 pm4 cd4 ct4 oc5 kV5 dc5 pm5 cd5 ct5 oc6 kV6 dc6 pm6 cd6 ct6 oc7 kV7 dc7 pm7 cd7 ct7 oc8 kV8 dc8 pm8 cd8 ct8 oc9 kV9 dc9 pm9 cd9 ct9 oc10 kV10 dc10 pm10 cd10 ct10 oc11 kV11 dc11 pm11 cd11 ct11 oc12 kV12 dc12 pm12 cd12 ct12 oc13 kV13 dc13 pm13 cd13 ct13 oc14 kV14 dc14 pm14 cd14 ct14 oc15 kV15 dc15 pm15 cd15 ct15 oc16 kV16 dc16 pm16 cd16 ct16 oc17 kV17 dc17 pm17 cd17 ct17 oc18 kV18 dc18 pm18 cd18 ct18 oc19 kV19 dc19 pm19 cd19 ct19 oc20 kV20 dc20 pm20 cd20 ct20 oc21 kV21 dc21 pm21 cd21 ct21 oc22 kV22 dc22 pm22 cd22 ct22 oc23 kV23 dc23 pm23 cd23 ct23 oc24 kV24 dc24 pm24 cd24 ct24 oc25 kV25 dc25 pm25 cd25 ct25 : Value}
    (a0 : PySem.W.nsIn K mainGlobals "check_size" = some (some (.ref f_check_size)))
    (l0 : K.lookup f_check_size = some ⟨oc0, od0, .func (PySem.W.fnOf "check_size" "check_size" (defArgs s_check_size) (defBody s_check_size) (defScope s_check_size) .none kV0 dc0 pm0 an0 cd0 ct0), sl0⟩) (c0 : PySem.W.codeIn K cd0 "check_size" = true) (k0 : PySem.W.keepIn K (.ref f_check_size) = true)
    (a1 : PySem.W.nsIn K mainGlobals "check_script" = some (some (.ref f_check_script)))
    (l1 : K.lookup f_check_script = some ⟨oc1, od1, .func (PySem.W.fnOf "check_script" "check_script" (defArgs s_check_script) (defBody s_check_script) (defScope s_check_script) .none kV1 dc1 pm1 an1 cd1 ct1), sl1⟩) (c1 : PySem.W.codeIn K cd1 "check_script" = true) (k1 : PySem.W.keepIn K (.ref f_check_script) = true)
    (a2 : PySem.W.nsIn K mainGlobals "check_arrangement" = some (some (.ref f_check_arrangement)))
    (l2 : K.lookup f_check_arrangement = some ⟨oc2, od2, .func (PySem.W.fnOf "check_arrangement" "check_arrangement" (defArgs s_check_arrangement) (defBody s_check_arrangement) (defScope s_check_arrangement) .none kV2 dc2 pm2 an2 cd2 ct2), sl2⟩) (c2 : PySem.W.codeIn K cd2 "check_arrangement" = true) (k2 : PySem.W.keepIn K (.ref f_check_arrangement) = true)
    (a3 : PySem.W.nsIn K mainGlobals "sort_stretches" = some (some (.ref f_sort_stretches)))
    (l3 : K.lookup f_sort_stretches = some ⟨oc3, od3, .func (PySem.W.fnOf "sort_stretches" "sort_stretches" (defArgs s_sort_stretches) (defBody s_sort_stretches) (defScope s_sort_stretches) .none kV3 dc3 pm3 an3 cd3 ct3), sl3⟩) (c3 : PySem.W.codeIn K cd3 "sort_stretches" = true) (k3 : PySem.W.keepIn K (.ref f_sort_stretches) = true)
    (a4 : PySem.W.nsIn K mainGlobals "inversions" = some (some (.ref f_inversions)))
    (l4 : K.lookup f_inversions = some ⟨oc4, od4, .func (PySem.W.fnOf "inversions" "inversions" (defArgs s_inversions) (defBody s_inversions) (defScope s_inversions) .none kV4 dc4 pm4 an4 cd4 ct4), sl4⟩) (c4 : PySem.W.codeIn K cd4 "inversions" = true) (k4 : PySem.W.keepIn K (.ref f_inversions) = true)
    (a5 : PySem.W.nsIn K mainGlobals "descending_row" = some (some (.ref f_descending_row)))
    (l5 : K.lookup f_descending_row = some ⟨oc5, od5, .func (PySem.W.fnOf "descending_row" "descending_row" (defArgs s_descending_row) (defBody s_descending_row) (defScope s_descending_row) .none kV5 dc5 pm5 an5 cd5 ct5), sl5⟩) (c5 : PySem.W.codeIn K cd5 "descending_row" = true) (k5 : PySem.W.keepIn K (.ref f_descending_row) = true)
    (a6 : PySem.W.nsIn K mainGlobals "exchange_places" = some (some (.ref f_exchange_places)))
    (l6 : K.lookup f_exchange_places = some ⟨oc6, od6, .func (PySem.W.fnOf "exchange_places" "exchange_places" (defArgs s_exchange_places) (defBody s_exchange_places) (defScope s_exchange_places) .none kV6 dc6 pm6 an6 cd6 ct6), sl6⟩) (c6 : PySem.W.codeIn K cd6 "exchange_places" = true) (k6 : PySem.W.keepIn K (.ref f_exchange_places) = true)
    (a7 : PySem.W.nsIn K mainGlobals "_law_pool" = some (some (.ref f_law_pool)))
    (l7 : K.lookup f_law_pool = some ⟨oc7, od7, .func (PySem.W.fnOf "_law_pool" "_law_pool" (defArgs s_law_pool) (defBody s_law_pool) (defScope s_law_pool) .none kV7 dc7 pm7 an7 cd7 ct7), sl7⟩) (c7 : PySem.W.codeIn K cd7 "_law_pool" = true) (k7 : PySem.W.keepIn K (.ref f_law_pool) = true)
    (a8 : PySem.W.nsIn K mainGlobals "_law_draw" = some (some (.ref f_law_draw)))
    (l8 : K.lookup f_law_draw = some ⟨oc8, od8, .func (PySem.W.fnOf "_law_draw" "_law_draw" (defArgs s_law_draw) (defBody s_law_draw) (defScope s_law_draw) .none kV8 dc8 pm8 an8 cd8 ct8), sl8⟩) (c8 : PySem.W.codeIn K cd8 "_law_draw" = true) (k8 : PySem.W.keepIn K (.ref f_law_draw) = true)
    (a9 : PySem.W.nsIn K mainGlobals "_law_ran" = some (some (.ref f_law_ran)))
    (l9 : K.lookup f_law_ran = some ⟨oc9, od9, .func (PySem.W.fnOf "_law_ran" "_law_ran" (defArgs s_law_ran) (defBody s_law_ran) (defScope s_law_ran) .none kV9 dc9 pm9 an9 cd9 ct9), sl9⟩) (c9 : PySem.W.codeIn K cd9 "_law_ran" = true) (k9 : PySem.W.keepIn K (.ref f_law_ran) = true)
    (a10 : PySem.W.nsIn K mainGlobals "_law_falling" = some (some (.ref f_law_falling)))
    (l10 : K.lookup f_law_falling = some ⟨oc10, od10, .func (PySem.W.fnOf "_law_falling" "_law_falling" (defArgs s_law_falling) (defBody s_law_falling) (defScope s_law_falling) .none kV10 dc10 pm10 an10 cd10 ct10), sl10⟩) (c10 : PySem.W.codeIn K cd10 "_law_falling" = true) (k10 : PySem.W.keepIn K (.ref f_law_falling) = true)
    (a11 : PySem.W.nsIn K mainGlobals "_law_every" = some (some (.ref f_law_every)))
    (l11 : K.lookup f_law_every = some ⟨oc11, od11, .func (PySem.W.fnOf "_law_every" "_law_every" (defArgs s_law_every) (defBody s_law_every) (defScope s_law_every) .none kV11 dc11 pm11 an11 cd11 ct11), sl11⟩) (c11 : PySem.W.codeIn K cd11 "_law_every" = true) (k11 : PySem.W.keepIn K (.ref f_law_every) = true)
    (a12 : PySem.W.nsIn K mainGlobals "check_sized_script" = some (some (.ref f_check_sized_script)))
    (l12 : K.lookup f_check_sized_script = some ⟨oc12, od12, .func (PySem.W.fnOf "check_sized_script" "check_sized_script" (defArgs s_check_sized_script) (defBody s_check_sized_script) (defScope s_check_sized_script) .none kV12 dc12 pm12 an12 cd12 ct12), sl12⟩) (c12 : PySem.W.codeIn K cd12 "check_sized_script" = true) (k12 : PySem.W.keepIn K (.ref f_check_sized_script) = true)
    (a13 : PySem.W.nsIn K mainGlobals "greatest_before" = some (some (.ref f_greatest_before)))
    (l13 : K.lookup f_greatest_before = some ⟨oc13, od13, .func (PySem.W.fnOf "greatest_before" "greatest_before" (defArgs s_greatest_before) (defBody s_greatest_before) (defScope s_greatest_before) .none kV13 dc13 pm13 an13 cd13 ct13), sl13⟩) (c13 : PySem.W.codeIn K cd13 "greatest_before" = true) (k13 : PySem.W.keepIn K (.ref f_greatest_before) = true)
    (a14 : PySem.W.nsIn K mainGlobals "exchanges" = some (some (.ref f_exchanges)))
    (l14 : K.lookup f_exchanges = some ⟨oc14, od14, .func (PySem.W.fnOf "exchanges" "exchanges" (defArgs s_exchanges) (defBody s_exchanges) (defScope s_exchanges) .none kV14 dc14 pm14 an14 cd14 ct14), sl14⟩) (c14 : PySem.W.codeIn K cd14 "exchanges" = true) (k14 : PySem.W.keepIn K (.ref f_exchanges) = true)
    (a15 : PySem.W.nsIn K mainGlobals "_law_steps" = some (some (.ref f_law_steps)))
    (l15 : K.lookup f_law_steps = some ⟨oc15, od15, .func (PySem.W.fnOf "_law_steps" "_law_steps" (defArgs s_law_steps) (defBody s_law_steps) (defScope s_law_steps) .none kV15 dc15 pm15 an15 cd15 ct15), sl15⟩) (c15 : PySem.W.codeIn K cd15 "_law_steps" = true) (k15 : PySem.W.keepIn K (.ref f_law_steps) = true)
    (a16 : PySem.W.nsIn K mainGlobals "_law_reached" = some (some (.ref f_law_reached)))
    (l16 : K.lookup f_law_reached = some ⟨oc16, od16, .func (PySem.W.fnOf "_law_reached" "_law_reached" (defArgs s_law_reached) (defBody s_law_reached) (defScope s_law_reached) .none kV16 dc16 pm16 an16 cd16 ct16), sl16⟩) (c16 : PySem.W.codeIn K cd16 "_law_reached" = true) (k16 : PySem.W.keepIn K (.ref f_law_reached) = true)
    (a17 : PySem.W.nsIn K mainGlobals "run" = some (some (.ref f_run)))
    (l17 : K.lookup f_run = some ⟨oc17, od17, .func (PySem.W.fnOf "run" "run" (defArgs s_run) (defBody s_run) (defScope s_run) .none kV17 dc17 pm17 an17 cd17 ct17), sl17⟩) (c17 : PySem.W.codeIn K cd17 "run" = true) (k17 : PySem.W.keepIn K (.ref f_run) = true)
    (a18 : PySem.W.nsIn K mainGlobals "greatest_row" = some (some (.ref f_greatest_row)))
    (l18 : K.lookup f_greatest_row = some ⟨oc18, od18, .func (PySem.W.fnOf "greatest_row" "greatest_row" (defArgs s_greatest_row) (defBody s_greatest_row) (defScope s_greatest_row) .none kV18 dc18 pm18 an18 cd18 ct18), sl18⟩) (c18 : PySem.W.codeIn K cd18 "greatest_row" = true) (k18 : PySem.W.keepIn K (.ref f_greatest_row) = true)
    (a19 : PySem.W.nsIn K mainGlobals "effect" = some (some (.ref f_effect)))
    (l19 : K.lookup f_effect = some ⟨oc19, od19, .func (PySem.W.fnOf "effect" "effect" (defArgs s_effect) (defBody s_effect) (defScope s_effect) .none kV19 dc19 pm19 an19 cd19 ct19), sl19⟩) (c19 : PySem.W.codeIn K cd19 "effect" = true) (k19 : PySem.W.keepIn K (.ref f_effect) = true)
    (a20 : PySem.W.nsIn K mainGlobals "ahead" = some (some (.ref f_ahead)))
    (l20 : K.lookup f_ahead = some ⟨oc20, od20, .func (PySem.W.fnOf "ahead" "ahead" (defArgs s_ahead) (defBody s_ahead) (defScope s_ahead) .none kV20 dc20 pm20 an20 cd20 ct20), sl20⟩) (c20 : PySem.W.codeIn K cd20 "ahead" = true) (k20 : PySem.W.keepIn K (.ref f_ahead) = true)
    (a21 : PySem.W.nsIn K mainGlobals "missing_behind" = some (some (.ref f_missing_behind)))
    (l21 : K.lookup f_missing_behind = some ⟨oc21, od21, .func (PySem.W.fnOf "missing_behind" "missing_behind" (defArgs s_missing_behind) (defBody s_missing_behind) (defScope s_missing_behind) .none kV21 dc21 pm21 an21 cd21 ct21), sl21⟩) (c21 : PySem.W.codeIn K cd21 "missing_behind" = true) (k21 : PySem.W.keepIn K (.ref f_missing_behind) = true)
    (a22 : PySem.W.nsIn K mainGlobals "behind" = some (some (.ref f_behind)))
    (l22 : K.lookup f_behind = some ⟨oc22, od22, .func (PySem.W.fnOf "behind" "behind" (defArgs s_behind) (defBody s_behind) (defScope s_behind) .none kV22 dc22 pm22 an22 cd22 ct22), sl22⟩) (c22 : PySem.W.codeIn K cd22 "behind" = true) (k22 : PySem.W.keepIn K (.ref f_behind) = true)
    (a23 : PySem.W.nsIn K mainGlobals "missing_ahead" = some (some (.ref f_missing_ahead)))
    (l23 : K.lookup f_missing_ahead = some ⟨oc23, od23, .func (PySem.W.fnOf "missing_ahead" "missing_ahead" (defArgs s_missing_ahead) (defBody s_missing_ahead) (defScope s_missing_ahead) .none kV23 dc23 pm23 an23 cd23 ct23), sl23⟩) (c23 : PySem.W.codeIn K cd23 "missing_ahead" = true) (k23 : PySem.W.keepIn K (.ref f_missing_ahead) = true)
    (a24 : PySem.W.nsIn K mainGlobals "_law_right" = some (some (.ref f_law_right)))
    (l24 : K.lookup f_law_right = some ⟨oc24, od24, .func (PySem.W.fnOf "_law_right" "_law_right" (defArgs s_law_right) (defBody s_law_right) (defScope s_law_right) .none kV24 dc24 pm24 an24 cd24 ct24), sl24⟩) (c24 : PySem.W.codeIn K cd24 "_law_right" = true) (k24 : PySem.W.keepIn K (.ref f_law_right) = true)
    (a25 : PySem.W.nsIn K mainGlobals "law" = some (some (.ref f_law)))
    (l25 : K.lookup f_law = some ⟨oc25, od25, .func (PySem.W.fnOf "law" "law" (defArgs s_law) (defBody s_law) (defScope s_law) .none kV25 dc25 pm25 an25 cd25 ct25), sl25⟩) (c25 : PySem.W.codeIn K cd25 "law" = true) (k25 : PySem.W.keepIn K (.ref f_law) = true)
    (z_abs : PySem.W.nsIn K mainGlobals "abs" = some none) (z_enumerate : PySem.W.nsIn K mainGlobals "enumerate" = some none) (z_len : PySem.W.nsIn K mainGlobals "len" = some none) (z_list : PySem.W.nsIn K mainGlobals "list" = some none) (z_max : PySem.W.nsIn K mainGlobals "max" = some none) (z_min : PySem.W.nsIn K mainGlobals "min" = some none) (z_range : PySem.W.nsIn K mainGlobals "range" = some none) (z_repr : PySem.W.nsIn K mainGlobals "repr" = some none) (z_reversed : PySem.W.nsIn K mainGlobals "reversed" = some none) (z_set : PySem.W.nsIn K mainGlobals "set" = some none) (z_sorted : PySem.W.nsIn K mainGlobals "sorted" = some none) (z_tuple : PySem.W.nsIn K mainGlobals "tuple" = some none) :
    ∃ fd : FuncData, (∀ (s : Shared) (v : Value), BindsTo s fd ⟨[v], []⟩ [("script", v)]) ∧ ∀ base : Heap, K.In base → base.Ns mainGlobals mg → FnG l.prog w K mg base CX0 8 fa fd ["script"] (sp_law K) := by
  have e := hfa.symm.trans (PySem.W.mg_of X G a25)
  cases e
  have F0 := fun_mk (st := s_check_size) l0 c0 k0
  have b0 := F0.binds (ps := ["size"]) fun _ _ _ _ _ _ us hl => match us, hl with | [_], _ => rfl
  have F1 := fun_mk (st := s_check_script) l1 c1 k1
  have b1 := F1.binds (ps := ["size", "commands"]) fun _ _ _ _ _ _ us hl => match us, hl with | [_, _], _ => rfl
  have F2 := fun_mk (st := s_check_arrangement) l2 c2 k2
  have b2 := F2.binds (ps := ["row"]) fun _ _ _ _ _ _ us hl => match us, hl with | [_], _ => rfl
  have F3 := fun_mk (st := s_sort_stretches) l3 c3 k3
  have b3 := F3.binds (ps := ["row", "commands"]) fun _ _ _ _ _ _ us hl => match us, hl with | [_, _], _ => rfl
  have F4 := fun_mk (st := s_inversions) l4 c4 k4
  have b4 := F4.binds (ps := ["row"]) fun _ _ _ _ _ _ us hl => match us, hl with | [_], _ => rfl
  have F5 := fun_mk (st := s_descending_row) l5 c5 k5
  have b5 := F5.binds (ps := ["size"]) fun _ _ _ _ _ _ us hl => match us, hl with | [_], _ => rfl
  have F6 := fun_mk (st := s_exchange_places) l6 c6 k6
  have b6 := F6.binds (ps := ["wanted"]) fun _ _ _ _ _ _ us hl => match us, hl with | [_], _ => rfl
  have F7 := fun_mk (st := s_law_pool) l7 c7 k7
  have b7 := F7.binds (ps := ["script", "at"]) fun _ _ _ _ _ _ us hl => match us, hl with | [_, _], _ => rfl
  have F8 := fun_mk (st := s_law_draw) l8 c8 k8
  have b8 := F8.binds (ps := ["pool", "many"]) fun _ _ _ _ _ _ us hl => match us, hl with | [_, _], _ => rfl
  have F9 := fun_mk (st := s_law_ran) l9 c9 k9
  have b9 := F9.binds (ps := ["line_here", "steps_here"]) fun _ _ _ _ _ _ us hl => match us, hl with | [_, _], _ => rfl
  have F10 := fun_mk (st := s_law_falling) l10 c10 k10
  have b10 := F10.binds (ps := ["wide"]) fun _ _ _ _ _ _ us hl => match us, hl with | [_], _ => rfl
  have F11 := fun_mk (st := s_law_every) l11 c11 k11
  have b11 := F11.binds (ps := ["wide"]) fun _ _ _ _ _ _ us hl => match us, hl with | [_], _ => rfl
  have F12 := fun_mk (st := s_check_sized_script) l12 c12 k12
  have b12 := F12.binds (ps := ["size", "commands"]) fun _ _ _ _ _ _ us hl => match us, hl with | [_, _], _ => rfl
  have F13 := fun_mk (st := s_greatest_before) l13 c13 k13
  have b13 := F13.binds (ps := ["commands", "row"]) fun _ _ _ _ _ _ us hl => match us, hl with | [_, _], _ => rfl
  have F14 := fun_mk (st := s_exchanges) l14 c14 k14
  have b14 := F14.binds (ps := ["wanted"]) fun _ _ _ _ _ _ us hl => match us, hl with | [_], _ => rfl
  have F15 := fun_mk (st := s_law_steps) l15 c15 k15
  have b15 := F15.binds (ps := ["pool", "wide", "most"]) fun _ _ _ _ _ _ us hl => match us, hl with | [_, _, _], _ => rfl
  have F16 := fun_mk (st := s_law_reached) l16 c16 k16
  have b16 := F16.binds (ps := ["start"]) fun _ _ _ _ _ _ us hl => match us, hl with | [_], _ => rfl
  have F17 := fun_mk (st := s_run) l17 c17 k17
  have b17 := F17.binds (ps := ["row", "commands"]) fun _ _ _ _ _ _ us hl => match us, hl with | [_, _], _ => rfl
  have F18 := fun_mk (st := s_greatest_row) l18 c18 k18
  have b18 := F18.binds (ps := ["size", "commands"]) fun _ _ _ _ _ _ us hl => match us, hl with | [_, _], _ => rfl
  have F19 := fun_mk (st := s_effect) l19 c19 k19
  have b19 := F19.binds (ps := ["size", "commands"]) fun _ _ _ _ _ _ us hl => match us, hl with | [_, _], _ => rfl
  have F20 := fun_mk (st := s_ahead) l20 c20 k20
  have b20 := F20.binds (ps := ["size", "commands"]) fun _ _ _ _ _ _ us hl => match us, hl with | [_, _], _ => rfl
  have F21 := fun_mk (st := s_missing_behind) l21 c21 k21
  have b21 := F21.binds (ps := ["size", "commands"]) fun _ _ _ _ _ _ us hl => match us, hl with | [_, _], _ => rfl
  have F22 := fun_mk (st := s_behind) l22 c22 k22
  have b22 := F22.binds (ps := ["size", "commands"]) fun _ _ _ _ _ _ us hl => match us, hl with | [_, _], _ => rfl
  have F23 := fun_mk (st := s_missing_ahead) l23 c23 k23
  have b23 := F23.binds (ps := ["size", "commands"]) fun _ _ _ _ _ _ us hl => match us, hl with | [_, _], _ => rfl
  have F24 := fun_mk (st := s_law_right) l24 c24 k24
  have b24 := F24.binds (ps := ["pool", "wide"]) fun _ _ _ _ _ _ us hl => match us, hl with | [_, _], _ => rfl
  have F25 := fun_mk (st := s_law) l25 c25 k25
  have b25 := F25.binds (ps := ["script"]) fun _ _ _ _ _ _ us hl => match us, hl with | [_], _ => rfl
  have kb_ahead_commands_size : KBinds K (PySem.W.fnOf "ahead" "ahead" (defArgs s_ahead) (defBody s_ahead) (defScope s_ahead) .none kV20 dc20 pm20 an20 cd20 ct20) ["size", "commands"] ["commands", "size"] (fun (us ws : List Value) => match us, ws with | [], [w0, w1] => [w1, w0] | _, _ => []) (fun (us ws : List V) => match us, ws with | [], [w0, w1] => [w1, w0] | _, _ => []) := by
    refine ⟨fun s us ws _ hl => ?_, fun {vs us zs ws} h1 h2 => ?_⟩
    · revert hl; (try dsimp only); split
      · intro _; exact .of_eq rfl
      · intro hl; cases hl
    · rcases h1 with _ | ⟨p1, _ | ⟨p2, _ | ⟨p3, h1⟩⟩⟩ <;> rcases h2 with _ | ⟨q1, _ | ⟨q2, _ | ⟨q3, h2⟩⟩⟩ <;> ((try dsimp only); repeat (first | exact .nil | refine .cons (by assumption) ?_))
  have kb_behind_commands_size : KBinds K (PySem.W.fnOf "behind" "behind" (defArgs s_behind) (defBody s_behind) (defScope s_behind) .none kV22 dc22 pm22 an22 cd22 ct22) ["size", "commands"] ["commands", "size"] (fun (us ws : List Value) => match us, ws with | [], [w0, w1] => [w1, w0] | _, _ => []) (fun (us ws : List V) => match us, ws with | [], [w0, w1] => [w1, w0] | _, _ => []) := by
    refine ⟨fun s us ws _ hl => ?_, fun {vs us zs ws} h1 h2 => ?_⟩
    · revert hl; (try dsimp only); split
      · intro _; exact .of_eq rfl
      · intro hl; cases hl
    · rcases h1 with _ | ⟨p1, _ | ⟨p2, _ | ⟨p3, h1⟩⟩⟩ <;> rcases h2 with _ | ⟨q1, _ | ⟨q2, _ | ⟨q3, h2⟩⟩⟩ <;> ((try dsimp only); repeat (first | exact .nil | refine .cons (by assumption) ?_))
  have kb_missing_ahead_commands_size : KBinds K (PySem.W.fnOf "missing_ahead" "missing_ahead" (defArgs s_missing_ahead) (defBody s_missing_ahead) (defScope s_missing_ahead) .none kV23 dc23 pm23 an23 cd23 ct23) ["size", "commands"] ["commands", "size"] (fun (us ws : List Value) => match us, ws with | [], [w0, w1] => [w1, w0] | _, _ => []) (fun (us ws : List V) => match us, ws with | [], [w0, w1] => [w1, w0] | _, _ => []) := by
    refine ⟨fun s us ws _ hl => ?_, fun {vs us zs ws} h1 h2 => ?_⟩
    · revert hl; (try dsimp only); split
      · intro _; exact .of_eq rfl
      · intro hl; cases hl
    · rcases h1 with _ | ⟨p1, _ | ⟨p2, _ | ⟨p3, h1⟩⟩⟩ <;> rcases h2 with _ | ⟨q1, _ | ⟨q2, _ | ⟨q3, h2⟩⟩⟩ <;> ((try dsimp only); repeat (first | exact .nil | refine .cons (by assumption) ?_))
  have kb_missing_behind_commands_size : KBinds K (PySem.W.fnOf "missing_behind" "missing_behind" (defArgs s_missing_behind) (defBody s_missing_behind) (defScope s_missing_behind) .none kV21 dc21 pm21 an21 cd21 ct21) ["size", "commands"] ["commands", "size"] (fun (us ws : List Value) => match us, ws with | [], [w0, w1] => [w1, w0] | _, _ => []) (fun (us ws : List V) => match us, ws with | [], [w0, w1] => [w1, w0] | _, _ => []) := by
    refine ⟨fun s us ws _ hl => ?_, fun {vs us zs ws} h1 h2 => ?_⟩
    · revert hl; (try dsimp only); split
      · intro _; exact .of_eq rfl
      · intro hl; cases hl
    · rcases h1 with _ | ⟨p1, _ | ⟨p2, _ | ⟨p3, h1⟩⟩⟩ <;> rcases h2 with _ | ⟨q1, _ | ⟨q2, _ | ⟨q3, h2⟩⟩⟩ <;> ((try dsimp only); repeat (first | exact .nil | refine .cons (by assumption) ?_))
  let T : Txt K mg := { check_size_a := f_check_size, check_size_d := _, check_size_F := F0, check_size_b := b0, check_size_g := PySem.W.mg_of X G a0, check_script_a := f_check_script, check_script_d := _, check_script_F := F1, check_script_b := b1, check_script_g := PySem.W.mg_of X G a1, check_arrangement_a := f_check_arrangement, check_arrangement_d := _, check_arrangement_F := F2, check_arrangement_b := b2, check_arrangement_g := PySem.W.mg_of X G a2, sort_stretches_a := f_sort_stretches, sort_stretches_d := _, sort_stretches_F := F3, sort_stretches_b := b3, sort_stretches_g := PySem.W.mg_of X G a3, inversions_a := f_inversions, inversions_d := _, inversions_F := F4, inversions_b := b4, inversions_g := PySem.W.mg_of X G a4, descending_row_a := f_descending_row, descending_row_d := _, descending_row_F := F5, descending_row_b := b5, descending_row_g := PySem.W.mg_of X G a5, exchange_places_a := f_exchange_places, exchange_places_d := _, exchange_places_F := F6, exchange_places_b := b6, exchange_places_g := PySem.W.mg_of X G a6, law_pool_a := f_law_pool, law_pool_d := _, law_pool_F := F7, law_pool_b := b7, law_pool_g := PySem.W.mg_of X G a7, law_draw_a := f_law_draw, law_draw_d := _, law_draw_F := F8, law_draw_b := b8, law_draw_g := PySem.W.mg_of X G a8, law_ran_a := f_law_ran, law_ran_d := _, law_ran_F := F9, law_ran_b := b9, law_ran_g := PySem.W.mg_of X G a9, law_falling_a := f_law_falling, law_falling_d := _, law_falling_F := F10, law_falling_b := b10, law_falling_g := PySem.W.mg_of X G a10, law_every_a := f_law_every, law_every_d := _, law_every_F := F11, law_every_b := b11, law_every_g := PySem.W.mg_of X G a11, check_sized_script_a := f_check_sized_script, check_sized_script_d := _, check_sized_script_F := F12, check_sized_script_b := b12, check_sized_script_g := PySem.W.mg_of X G a12, greatest_before_a := f_greatest_before, greatest_before_d := _, greatest_before_F := F13, greatest_before_b := b13, greatest_before_g := PySem.W.mg_of X G a13, exchanges_a := f_exchanges, exchanges_d := _, exchanges_F := F14, exchanges_b := b14, exchanges_g := PySem.W.mg_of X G a14, law_steps_a := f_law_steps, law_steps_d := _, law_steps_F := F15, law_steps_b := b15, law_steps_g := PySem.W.mg_of X G a15, law_reached_a := f_law_reached, law_reached_d := _, law_reached_F := F16, law_reached_b := b16, law_reached_g := PySem.W.mg_of X G a16, run_a := f_run, run_d := _, run_F := F17, run_b := b17, run_g := PySem.W.mg_of X G a17, greatest_row_a := f_greatest_row, greatest_row_d := _, greatest_row_F := F18, greatest_row_b := b18, greatest_row_g := PySem.W.mg_of X G a18, effect_a := f_effect, effect_d := _, effect_F := F19, effect_b := b19, effect_g := PySem.W.mg_of X G a19, ahead_a := f_ahead, ahead_d := _, ahead_F := F20, ahead_b := b20, ahead_g := PySem.W.mg_of X G a20, missing_behind_a := f_missing_behind, missing_behind_d := _, missing_behind_F := F21, missing_behind_b := b21, missing_behind_g := PySem.W.mg_of X G a21, behind_a := f_behind, behind_d := _, behind_F := F22, behind_b := b22, behind_g := PySem.W.mg_of X G a22, missing_ahead_a := f_missing_ahead, missing_ahead_d := _, missing_ahead_F := F23, missing_ahead_b := b23, missing_ahead_g := PySem.W.mg_of X G a23, law_right_a := f_law_right, law_right_d := _, law_right_F := F24, law_right_b := b24, law_right_g := PySem.W.mg_of X G a24, law_a := fa, law_d := _, law_F := F25, law_b := b25, law_g := PySem.W.mg_of X G a25, k_ahead_commands_size := kb_ahead_commands_size, k_behind_commands_size := kb_behind_commands_size, k_missing_ahead_commands_size := kb_missing_ahead_commands_size, k_missing_behind_commands_size := kb_missing_behind_commands_size, m_abs := PySem.W.mg_none_of X G z_abs, m_enumerate := PySem.W.mg_none_of X G z_enumerate, m_len := PySem.W.mg_none_of X G z_len, m_list := PySem.W.mg_none_of X G z_list, m_max := PySem.W.mg_none_of X G z_max, m_min := PySem.W.mg_none_of X G z_min, m_range := PySem.W.mg_none_of X G z_range, m_repr := PySem.W.mg_none_of X G z_repr, m_reversed := PySem.W.mg_none_of X G z_reversed, m_set := PySem.W.mg_none_of X G z_set, m_sorted := PySem.W.mg_none_of X G z_sorted, m_tuple := PySem.W.mg_none_of X G z_tuple }
  exact ⟨PySem.W.fnOf "law" "law" (defArgs s_law) (defBody s_law) (defScope s_law) .none kV25 dc25 pm25 an25 cd25 ct25, fun s v => .of_eq rfl, fun base _ _ => ok_law T⟩
end L27
open PySem PySem.W PyProof.Rows
set_option maxHeartbeats 0 in
theorem PySem.Challenge.cw_sortstretches_k27_completed_by_search_holds : PySem.Challenge.rw_sortstretches_k27_completed_by_search.Holds := by
  w_on; o_law; k_head; (case hw => w_witness2)
  k_fill
  refine Xk.walkG (l := PySem.Challenge.rw_sortstretches_k27_completed_by_search) (m := 63) (n := 8) (x := "script") (CX := L2.CX0) (sp := L27.sp_law) rfl (by decide) rfl ⟨rfl, by decide, by decide⟩ (fun w h Y => PySem.W.kIn_of Y) ?F (fun K H a ns hl hO hS => ⟨a, ns, rfl, hS, hl, fun _ => rfl⟩) (fun _ _ _ _ h => h)
  case F =>
    intro w mg fa h KX G hmg
    refine' L27.all_mk KX G hmg ?a0 ?l0 ?c0 ?k0 ?a1 ?l1 ?c1 ?k1 ?a2 ?l2 ?c2 ?k2 ?a3 ?l3 ?c3 ?k3 ?a4 ?l4 ?c4 ?k4 ?a5 ?l5 ?c5 ?k5 ?a6 ?l6 ?c6 ?k6 ?a7 ?l7 ?c7 ?k7 ?a8 ?l8 ?c8 ?k8 ?a9 ?l9 ?c9 ?k9 ?a10 ?l10 ?c10 ?k10 ?a11 ?l11 ?c11 ?k11 ?a12 ?l12 ?c12 ?k12 ?a13 ?l13 ?c13 ?k13 ?a14 ?l14 ?c14 ?k14 ?a15 ?l15 ?c15 ?k15 ?a16 ?l16 ?c16 ?k16 ?a17 ?l17 ?c17 ?k17 ?a18 ?l18 ?c18 ?k18 ?a19 ?l19 ?c19 ?k19 ?a20 ?l20 ?c20 ?k20 ?a21 ?l21 ?c21 ?k21 ?a22 ?l22 ?c22 ?k22 ?a23 ?l23 ?c23 ?k23 ?a24 ?l24 ?c24 ?k24 ?a25 ?l25 ?c25 ?k25 ?z_abs ?z_enumerate ?z_len ?z_list ?z_max ?z_min ?z_range ?z_repr ?z_reversed ?z_set ?z_sorted ?z_tuple
    (case a0 => k_is); (case l0 => k_is); (case c0 => k_is); (case k0 => k_is); (case a1 => k_is); (case l1 => k_is); (case c1 => k_is); (case k1 => k_is); (case a2 => k_is); (case l2 => k_is); (case c2 => k_is); (case k2 => k_is); (case a3 => k_is); (case l3 => k_is); (case c3 => k_is); (case k3 => k_is); (case a4 => k_is); (case l4 => k_is); (case c4 => k_is); (case k4 => k_is); (case a5 => k_is); (case l5 => k_is); (case c5 => k_is); (case k5 => k_is); (case a6 => k_is); (case l6 => k_is); (case c6 => k_is); (case k6 => k_is); (case a7 => k_is); (case l7 => k_is); (case c7 => k_is); (case k7 => k_is); (case a8 => k_is); (case l8 => k_is); (case c8 => k_is); (case k8 => k_is); (case a9 => k_is); (case l9 => k_is); (case c9 => k_is); (case k9 => k_is); (case a10 => k_is); (case l10 => k_is); (case c10 => k_is); (case k10 => k_is); (case a11 => k_is); (case l11 => k_is); (case c11 => k_is); (case k11 => k_is); (case a12 => k_is); (case l12 => k_is); (case c12 => k_is); (case k12 => k_is); (case a13 => k_is); (case l13 => k_is); (case c13 => k_is); (case k13 => k_is); (case a14 => k_is); (case l14 => k_is); (case c14 => k_is); (case k14 => k_is); (case a15 => k_is); (case l15 => k_is); (case c15 => k_is); (case k15 => k_is); (case a16 => k_is); (case l16 => k_is); (case c16 => k_is); (case k16 => k_is); (case a17 => k_is); (case l17 => k_is); (case c17 => k_is); (case k17 => k_is); (case a18 => k_is); (case l18 => k_is); (case c18 => k_is); (case k18 => k_is); (case a19 => k_is); (case l19 => k_is); (case c19 => k_is); (case k19 => k_is); (case a20 => k_is); (case l20 => k_is); (case c20 => k_is); (case k20 => k_is); (case a21 => k_is); (case l21 => k_is); (case c21 => k_is); (case k21 => k_is); (case a22 => k_is); (case l22 => k_is); (case c22 => k_is); (case k22 => k_is); (case a23 => k_is); (case l23 => k_is); (case c23 => k_is); (case k23 => k_is); (case a24 => k_is); (case l24 => k_is); (case c24 => k_is); (case k24 => k_is); (case a25 => k_is); (case l25 => k_is); (case c25 => k_is); (case k25 => k_is); (case z_abs => k_is); (case z_enumerate => k_is); (case z_len => k_is); (case z_list => k_is); (case z_max => k_is); (case z_min => k_is); (case z_range => k_is); (case z_repr => k_is); (case z_reversed => k_is); (case z_set => k_is); (case z_sorted => k_is); (case z_tuple => k_is)
