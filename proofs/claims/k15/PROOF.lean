import PyProof.Rows.All
import Wide.All
import OpenK.AllK
import Wide.FinOn
import HandS.Base
import HandS.Call
import HandS.List
import HandS.Ends
import HandS.Wide
import HandS.Iter
import HandS.Conv
import HandS.ForMost
import HandS.ForExc
import HandS.SortInts
import HandS.SortKw
import HandS.SetFor
import HandS.Style
import HandS.Codes
import HandS.Strs
import HandS.Walk
import HandS.IsInst
import HandS.NoneIn
import HandS.Deep
import HandS.More
import HandS.Dict
import KE.KDictDisplayH
import PySem.Challenge.RW_sortstretches_k15_fewest_exchanges
set_option maxHeartbeats 20000000
set_option Elab.async false
set_option linter.all false
set_option maxRecDepth 100000
namespace Xk
open PySem PySem.Spec PyProof.Rows L2

/-- a def's promise where no list is being written out around the call -/
structure FnG (P : Program) (w : World) (K : PySem.W.Frag) (mg : Str → Option Value) (B : Heap) (CX : CXT) (n : Nat) (g : Addr) (fd : FuncData) (ps : List Str) (sp : Sp) : Prop where
  cnt : ∀ vs H Q E, sp vs H Q E → vs.length = ps.length
  go : ∀ (A : Around) (ou : List Env) (t : Shared) (H : Hp) (ar : Args) (us : List Value) (vs : List V) (Q : VK) (E : XK),
    A.guards = some [] → Room n A → Env0 P w K mg B A ou t H → BindsTo t fd ar (ps.zip us) → Vals vs us → sp vs H Q E →
      codeAny (model P w) A (.call (.ref g) ar) (CR CX ou P w H t Q E) t

theorem FnG.of {P : Program} {w : World} {K : PySem.W.Frag} {mg : Str → Option Value} {B : Heap} {CX : CXT} {n : Nat} {g : Addr} {fd : FuncData} {ps : List Str} {sp : Sp}
    (F : FnOk P w K mg B CX n g fd ps sp) : FnG P w K mg B CX n g fd ps sp :=
  ⟨F.len, fun A ou t H ar us vs Q E _ room env bi rv hs => F.run A ou t H ar us vs Q E room env bi rv hs⟩

section
variable {X : Cx} {CX : CXT} {n : Nat} {g : Addr} {fd : FuncData} {ps ks : List Str} {sp : Sp} {dvs : List V} {ds : List Value} {E : XK} {x : Str} {p pos : Pos} {e : Expr} {es : List Expr} {kws : List Keyword} {t tk : TA}

theorem endG {pins : List (Addr × Obj)} {σ : L2.St} {H : Hp} {s s' : Shared} {Q : VK} {r : Result} (pas : Passes CX X E) (I : Inv X pins σ H s)
    (z : CR CX X.stack X.prog X.w H s Q E r s') :
    (match r with | .ok (.ret u) => EP X pins σ Q u s' | .ok _ => False | .error er => X.xe er s') := by
  match r, z with
  | .error er, z => exact pas pins σ H s er s' I z
  | .ok (.ret u), z => exact I.after z
  | .ok .next, z => exact z.elim
  | .ok .brk, z => exact z.elim
  | .ok .cont, z => exact z.elim

theorem goG {pins : List (Addr × Obj)} {σ : L2.St} {H : Hp} {s : Shared} {Q : VK} {us : List Value} {vs : List V} (F : FnG X.prog X.w X.K X.mg X.base CX n g fd ps sp)
    (hG : X.A.guards = some []) (room : Room n X.A) (bi : Binds X.K fd ps ds) (dv : Vals dvs ds) (pas : Passes CX X E) (I : Inv X pins σ H s) (rv : Vals vs us) (z : sp (vs ++ dvs) H Q E) :
    wpAny (model X.prog X.w) X.A (PySem.call (.ref g) us) (EP X pins σ Q) X.xe s := by
  have rv2 := rv.append dv
  have hlen : (us ++ ds).length = ps.length := rv2.length ▸ F.cnt _ _ _ _ z
  exact wpAny_call (codeAny_mono (F.go X.A X.stack s H ⟨us, []⟩ _ _ Q E hG room I.env0 (bi s us I.kIn hlen) rv2 z) fun r s' y => by
    have := endG pas I y
    revert this
    cases r with
    | error _ => exact id
    | ok fl => cases fl <;> exact id)

theorem pe_callG (F : FnG X.prog X.w X.K X.mg X.base CX n g fd ps sp) (hG : X.A.guards = some []) (room : Room n X.A) (gx : Gl X x) (at' : X.mg x = some (.ref g)) (kp : PySem.W.keepIn X.K (.ref g) = true)
    (bi : Binds X.K fd ps ds) (dv : Vals dvs ds) (pas : Passes CX X E) (ha : PA X (e :: es) t) (hdb : (x == ("__debug__" : Str)) = false := by decide)
    (he : starEach (e :: es) X.env = (false, eval e X.env) :: starEach es X.env := by rfl) (hpl : (backTo pos (starEach es X.env)).any (·.1) = false := by rfl) : PE X (.Call (.Name x p) (e :: es) [] pos) (tCall sp dvs E t) :=
  ⟨fun pins s σ H Q I z => wpAny_Call_Name_kw (ld_glob I gx at'
    (PySem.W.callWith_K (h₀ := X.base) I.ok.mod.kin kp (thn (ha.run pos pins s σ H _ I z) fun us s1 ⟨vs, H1, I1, r, q⟩ => ⟨I1.kIn, goG F hG room bi dv pas I1 r q⟩) he hpl) hdb)⟩

variable {ff : List Value → List Value → List Value} {fV : List V → List V → List V}
theorem goGK {pins : List (Addr × Obj)} {σ : L2.St} {H : Hp} {s : Shared} {Q : VK} {us ws : List Value} {vs zs : List V} (F : FnG X.prog X.w X.K X.mg X.base CX n g fd ps sp)
    (hG : X.A.guards = some []) (room : Room n X.A) (bi : KBinds X.K fd ps ks ff fV) (pas : Passes CX X E) (I : Inv X pins σ H s) (rv : Vals vs us) (rw' : Vals zs ws) (z : sp (fV vs zs) H Q E) :
    wpAny (model X.prog X.w) X.A (PySem.call (.ref g) us (ks.zip ws)) (EP X pins σ Q) X.xe s := by
  have rv2 := bi.rel rv rw'
  have hlen : (ff us ws).length = ps.length := rv2.length ▸ F.cnt _ _ _ _ z
  exact wpAny_call (codeAny_mono (F.go X.A X.stack s H ⟨us, ks.zip ws⟩ _ _ Q E hG room I.env0 (bi.to s us ws I.kIn hlen) rv2 z) fun r s' y => by
    have := endG pas I y
    revert this
    cases r with
    | error _ => exact id
    | ok fl => cases fl <;> exact id)

/-- f(e, .., k = v, ..) -/
theorem pe_callKG (F : FnG X.prog X.w X.K X.mg X.base CX n g fd ps sp) (hG : X.A.guards = some []) (room : Room n X.A) (gx : Gl X x) (at' : X.mg x = some (.ref g)) (kp : PySem.W.keepIn X.K (.ref g) = true)
    (bi : KBinds X.K fd ps ks ff fV) (pas : Passes CX X E) (ha : PA X (e :: es) t) (hkw : PK X kws tk) (hdb : (x == ("__debug__" : Str)) = false := by decide)
    (all' : (backToKw pos (keywordEach kws X.env)).all (·.1.isSome) = true := by rfl) (nms : (backToKw pos (keywordEach kws X.env)).filterMap (·.1) = ks := by rfl)
    (he : starEach (e :: es) X.env = (false, eval e X.env) :: starEach es X.env := by rfl)
    (hpl : ((backTo pos (starEach (e :: es) X.env)).any (·.1) || (backToKw pos (keywordEach kws X.env)).any (·.1.isNone)) = false := by rfl) :
    PE X (.Call (.Name x p) (e :: es) kws pos) (tCallK sp fV E t tk) := by
  subst nms
  exact ⟨fun pins s σ H Q I z => wpAny_Call_Name_kw (ld_glob I gx at'
    (PySem.W.callWith_KW (h₀ := X.base) I.ok.mod.kin kp all' (thn (ha.run pos pins s σ H _ I z) fun us s1 ⟨vs, H1, I1, r, q⟩ =>
      thn (hkw.run pos pins s1 σ H1 _ I1 q) fun ws s2 ⟨zs, H2, I2, rz, q2⟩ => ⟨I2.kIn, goGK F hG room bi pas I2 r rz q2⟩) hpl he) hdb)⟩
/-- f(k = v, ..) -/
theorem pe_callKG0 (F : FnG X.prog X.w X.K X.mg X.base CX n g fd ps sp) (hG : X.A.guards = some []) (room : Room n X.A) (gx : Gl X x) (at' : X.mg x = some (.ref g)) (kp : PySem.W.keepIn X.K (.ref g) = true)
    (bi : KBinds X.K fd ps ks ff fV) (pas : Passes CX X E) (hkw : PK X kws tk) (hdb : (x == ("__debug__" : Str)) = false := by decide)
    (all' : (backToKw pos (keywordEach kws X.env)).all (·.1.isSome) = true := by rfl) (nms : (backToKw pos (keywordEach kws X.env)).filterMap (·.1) = ks := by rfl)
    (hpl : ((backTo pos (starEach [] X.env)).any (·.1) || (backToKw pos (keywordEach kws X.env)).any (·.1.isNone)) = false := by rfl) :
    PE X (.Call (.Name x p) [] kws pos) (tCallK sp fV E tNil tk) := by
  subst nms
  exact ⟨fun pins s σ H Q I z => wpAny_Call_Name_kw (ld_glob I gx at'
    (PySem.W.callWith_KW0 (h₀ := X.base) I.ok.mod.kin kp all' (thn (hkw.run pos pins s σ H _ I z) fun ws s2 ⟨zs, H2, I2, rz, q2⟩ => ⟨I2.kIn, goGK F hG room bi pas I2 .nil rz q2⟩) hpl) hdb)⟩
end

/-- a def of the text by its body, the guards known -/
theorem fnG_of {P : Program} {w : World} {K : PySem.W.Frag} {mg : Str → Option Value} {B : Heap} {CX : CXT} {n : Nat} {g : Addr} {nm qual : Str} {pars : Arguments} {bd : List Stmt} {sc : Scope} {dV kV doc pm cdv ct oc : Value} {an od : Option Addr}
    {osl : Array (Option Value)} {N ps : List Str} {sp : Sp} (lk : K.lookup g = some ⟨oc, od, .func (PySem.W.fnOf nm qual pars bd sc dV kV doc pm an cdv ct), osl⟩) (hcd : PySem.W.codeIn K cdv qual = true) (S : FnScope N ps sc)
    (cnt : ∀ vs H Q E, sp vs H Q E → vs.length = ps.length)
    (body : ∀ (A : Around) (ou : List Env) (t : Shared) (H : Hp) (vs : List V) (Q : VK) (E : XK), A.guards = some [] → Room n (A.deeper (envOfC qual sc t.heap.objs.size g cdv)) → sp vs H Q E →
      ∃ r, PSs (cxOf CX P w K mg B N qual sc g cdv A ou t H E) bd r ∧ r { nx := fun _ H' => Q .non H', rt := Q } (L2.start N vs) H) :
    FnG P w K mg B CX (n + 1) g (PySem.W.fnOf nm qual pars bd sc dV kV doc pm an cdv ct) ps sp where
  cnt := cnt
  go A ou t H ar us vs Q E hG room env bi rv z := by
    have kin := env.mod.kin.keeps fun b o e => (env.bs b o e).1
    have lim := env.mod.nolimit.keeps fun b o e => (env.bs b o e).1
    have kinds : ∀ y ∈ ps.zip us, sc.names.lookup y.1 = some .local ∨ (sc.names.lookup y.1 = some .cell ∧ ((cellsFrom (t.heap.objs.size + 1) sc.names []).lookup y.1).isSome = true) := fun y hy =>
      (S.par y.1 (List.of_mem_zip (a := y.1) (b := y.2) hy).1).imp id fun q => ⟨q, PySem.W.cellsFrom_some _ _ _ (.inl q)⟩
    refine codeAny_call_function room.depth (kin _ _ lk) rfl S.co S.gen rfl (PySem.W.codeRec_of kin hcd) (bi _ _ _ _ (wpAny_newFunctionEnv_cells S.kind kinds fun env' he t1 x => ?_))
    subst he
    obtain ⟨r, hr, hq⟩ := body A ou t H vs Q E hG (room.deeper _) z
    refine ⟨lim.keeps x.toInCall.keep, codeAny_func (wpAny_mono (hr.run [] t1 (L2.start N vs) H _ (inv_start S room.hd env (cnt _ _ _ _ z) rv x) hq) (fun fl t' y => ?_) fun e t' y => y)⟩
    match fl, y with
    | .ret u, ⟨v, σ', H', J, ru, q⟩ => exact ⟨v, H', J.os, J.bare, J.base, J.hok, ru, q⟩
    | .next, ⟨σ', H', J, q⟩ => exact ⟨V.non, H', J.os, J.bare, J.base, J.hok, rfl, q⟩
    | .brk, ⟨_, _, _, q⟩ => exact q.elim
    | .cont, ⟨_, _, _, q⟩ => exact q.elim

/-- the law's call at the claim's caller, over an abstract heap that tracks the script at most -/
theorem lawG0 {P : Program} {w : World} {K : PySem.W.Frag} {mg mb : Str → Option Value} {CX : CXT} {n : Nat} {fa a : Addr} {fd : FuncData} {x : Str} {sp : Sp} {t : Shared} {vs : List Value} {H : Hp}
    (kin : K.In t.heap) (hm : t.heap.Ns mainGlobals mg) (hb : t.heap.Ns builtinsNs mb) (hbb : ∀ y : Str, y ≠ "__name__" → mb y = bootBuiltins y) (lim : t.heap.NoLimit) (gens : t.gens = #[])
    (ha : t.heap.get? a = some { cls := .type "list", data := .seq vs.toArray }) (room : Room n callerA)
    (F : ∀ B : Heap, K.In B → B.Ns mainGlobals mg → FnG P w K mg B CX n fa fd [x] sp) (bi : ∀ (s : Shared) (u : Value), BindsTo s fd ⟨[u], []⟩ [(x, u)])
    (z : sp [.ref a] H (fun v _ => v = .bl true) fun _ _ _ => False) (noX : ∀ H e s', CX [] H t (fun _ _ _ => False) e s' → False)
    (only : Only H) (hok : HOk P w H t.heap) (hA : ∀ b, H b ≠ none → b = a) (hK : H a ≠ none → K.lookup a = none) :
    codeAny (model P w) callerA (.call (.ref fa) ⟨[.ref a], []⟩) (fun r s' => r = .ok (.ret (.bool true)) ∧ OldK t.heap s'.heap ∧ s'.os = t.os ∧ AllBare s'.gens) t := by
  have free : ∀ {b : Addr}, b ≠ a → H b = none := fun {b} hne => Classical.byContradiction fun q => hne (hA b q)
  have low : ∀ {b : Addr} {o : Obj}, t.heap.get? b = some o → H b = none → (hidT t.heap H).get? b = some o := fun e q => hidT_get e q
  have dict : ∀ {b : Addr} {o : Obj} {es : Array DictEntry} {ep : Nat}, t.heap.get? b = some o → o.data = .dict es ep → H b = none := fun {b o es ep} e d => free fun q => by
    subst q
    rw [ha] at e
    cases e
    exact nomatch (show Data.seq vs.toArray _ = Data.dict es ep from d)
  have ns : ∀ {b : Addr} {m : Str → Option Value}, t.heap.Ns b m → (hidT t.heap H).Ns b m := fun ⟨o, es, ep, e, d, r⟩ => ⟨o, es, ep, low e (dict e d), d, r⟩
  have kb : K.In (hidT t.heap H) := fun b o e => low (kin b o e) (by
    by_cases q : b = a
    · subst q
      exact Classical.byContradiction fun y => by rw [hK y] at e; cases e
    · exact free q)
  obtain ⟨mc, l1, l2⟩ := lim
  have env : Env0 P w K mg (hidT t.heap H) callerA [] t H :=
    { frames := rfl, mod := ⟨kb, ns hm, ⟨mb, ns hb, hbb⟩, ⟨mc, ns l1, l2⟩⟩, bs := fun b o e => of_hidT e, bsz := Nat.le_of_eq (hidT_size _ _), funs := trivial,
      frf := fun b q => absurd (show b ∈ ([] : List Addr) from q) (by simp), hok := hok, bare := .of_eq gens }
  refine codeAny_mono ((F _ kb (ns hm)).go callerA [] t H ⟨[.ref a], []⟩ [.ref a] [.ref a] _ _ rfl room env (bi t (.ref a)) (.cons rfl .nil) z) fun r s' y => ?_
  match r, y with
  | .error e, y => exact (noX H e s' y).elim
  | .ok (.ret u), ⟨v, H', os, bare, un, hok', ru, q⟩ =>
    cases (show v = .bl true from q)
    cases (show u = Value.bool true from ru)
    refine ⟨rfl, OldK.of_keep fun b o e => ?_, os, bare⟩
    match hq : H b with
    | none => exact un.keep b o e hq (by intro q; exact absurd (show b ∈ ([] : List Addr) from q) (by simp)) (by simp)
    | some u =>
      rcases only b with q | ⟨ob, xs, q⟩
      · rw [hq] at q; cases q
      · obtain ⟨e1, _⟩ := hok b _ q
        obtain ⟨e2, _⟩ := hok' b _ (un.frzs b ob _ q)
        rw [e] at e1; cases e1
        exact e2

theorem lawG {P : Program} {w : World} {K : PySem.W.Frag} {mg mb : Str → Option Value} {CX : CXT} {n : Nat} {fa a : Addr} {fd : FuncData} {x : Str} {sp : Sp} {t : Shared} {vs : List Value} {ns : List Int}
    (kin : K.In t.heap) (hm : t.heap.Ns mainGlobals mg) (hb : t.heap.Ns builtinsNs mb) (hbb : ∀ y : Str, y ≠ "__name__" → mb y = bootBuiltins y) (lim : t.heap.NoLimit) (gens : t.gens = #[])
    (ha : t.heap.get? a = some { cls := .type "list", data := .seq vs.toArray }) (hi : IntsAre vs ns) (hl : ns.length ≤ sizeLine) (room : Room n callerA)
    (F : ∀ B : Heap, K.In B → B.Ns mainGlobals mg → FnG P w K mg B CX n fa fd [x] sp) (bi : ∀ (s : Shared) (u : Value), BindsTo s fd ⟨[u], []⟩ [(x, u)])
    (z : ∀ H : Hp, Only H → SqL K H a (ns.map V.int) → sp [.ref a] H (fun v _ => v = .bl true) fun _ _ _ => False) (noX : ∀ H e s', CX [] H t (fun _ _ _ => False) e s' → False) :
    codeAny (model P w) callerA (.call (.ref fa) ⟨[.ref a], []⟩) (fun r s' => r = .ok (.ret (.bool true)) ∧ OldK t.heap s'.heap ∧ s'.os = t.os ∧ AllBare s'.gens) t := by
  have rv := vals_ints hi
  match hk : K.lookup a with
  | some o =>
    have e := kin a o hk
    rw [ha] at e
    cases e
    have on : Only fun _ => none := fun _ => .inl rfl
    exact lawG0 kin hm hb hbb lim gens ha room F bi (z _ on (.inr ⟨_, vs.toArray, _, hk, rfl, rfl, rfl, by rw [List.size_toArray, hi.length]; exact hl, by simpa using rv⟩)) noX on
      (fun b u q => nomatch (show (none : Option HO) = some u from q)) (fun b q => absurd rfl q) fun q => absurd rfl q
  | none =>
    have at0 : ∀ {b : Addr}, b ≠ a → (if b = a then some (HO.frz { cls := .type "list", data := .seq vs.toArray } (.lst (ns.map V.int))) else none) = none := fun q => if_neg q
    have on : Only fun b => if b = a then some (HO.frz { cls := .type "list", data := .seq vs.toArray } (.lst (ns.map V.int))) else none := fun b => by
      by_cases q : b = a
      · exact .inr ⟨_, _, if_pos q⟩
      · exact .inl (if_neg q)
    refine lawG0 kin hm hb hbb lim gens ha room F bi (z _ on (.inl (.inr ⟨_, if_pos rfl⟩))) noX on (fun b u q => ?_) (fun b q => Classical.byContradiction fun y => q (if_neg y)) fun _ => hk
    by_cases y : b = a
    · subst y
      cases (if_pos rfl).symm.trans q
      exact ⟨ha, by rw [List.length_map]; exact hl, vs, _, rv, ha⟩
    · cases (at0 y).symm.trans q

/-- the goal that the head leaves, from the law's promise -/
theorem walkG {l : PySem.W.OpenLaw} {m n : Nat} {q : Program} {loose : List Str} {XP : (Str → Option Value) → Heap → Prop} {YP : World → Heap → Prop} {d : DefRec} {K : Params → PySem.W.Frag} {CX : CXT} {sp : PySem.W.Frag → Sp} {x : Str}
    (hn : l.most = some m) (hm : m ≤ sizeLine) (hdf : d.params.defaults = []) (room : Room n callerA) (hY : ∀ (w : World) (h : Heap), YP w h → (K w.params).In h)
    (F : ∀ (w : World) (mg : Str → Option Value) (fa : Addr) (h : Heap), (K w.params).In h → h.Ns mainGlobals mg → mg d.name = some (.ref fa) →
      ∃ fd : FuncData, (∀ (s : Shared) (u : Value), BindsTo s fd ⟨[u], []⟩ [(x, u)]) ∧
        ∀ B : Heap, (K w.params).In B → B.Ns mainGlobals mg → FnG l.prog w (K w.params) mg B CX n fa fd [x] (sp (K w.params)))
    (z : ∀ (K : PySem.W.Frag) (H : Hp) (a : Addr) (ns : List Int), ns.length ≤ m → Only H → SqL K H a (ns.map V.int) → sp K [.ref a] H (fun v _ => v = .bl true) fun _ _ _ => False)
    (noX : ∀ (H : Hp) (s : Shared) (e : Value) (s' : Shared), CX [] H s (fun _ _ _ => False) e s' → False) : PySem.W.WalkO q loose XP YP l.row.toRowW d [] (fun f vs => PySem.call f vs) :=
  Att.attach_call hn hdf fun w s0 s1 mg mb fa o pm cd doc a vs ns G Y ho hd hcd hmg hobj hints hlen hg =>
    have ⟨fd, hb, hF⟩ := F w mg fa _ (hY w _ Y) G.T.g hmg
    lawG (hY w _ Y) G.T.g G.T.b G.T.builtins G.T.nolimit hg hobj hints (Nat.le_trans hlen hm) room hF hb (fun H hO hS => z (K w.params) H a ns hlen hO hS) fun H e s' => noX H s1 e s'
end Xk

set_option Elab.async false
set_option linter.all false
set_option maxRecDepth 100000
namespace Xk
open PySem PySem.Spec PyProof.Rows L2

/-- ** with a whole exponent: base's bits times exponent within 2^27 -/
def CPowW (i j : Int) : Prop := 0 ≤ j ∧ (Builtin.Int.intBits i : Int) * j ≤ 2 ^ 27
section
variable {X : Cx}
theorem op_powW : OpR X (binaryOp .Pow) (rI CPowW fun i j => .int (i ^ j.toNat)) := opI fun _ _ _ _ _ _ _ hc q => pow_int hc.1 hc.2 q
end
theorem bits_le {i : Int} {n : Nat} (h : i.natAbs < 2 ^ n) : Builtin.Int.intBits i ≤ n := by
  unfold Builtin.Int.intBits
  split
  · omega
  · rename_i h0
    have h0' : i.natAbs ≠ 0 := by
      intro z
      apply h0
      simp [Int.natAbs_eq_zero.mp z]
    have := (Nat.log2_lt h0').mpr h
    omega
theorem powW {i : Int} {n : Nat} {j : Int} (h : i.natAbs < 2 ^ n) (h0 : 0 ≤ j) (hj : j ≤ 3) (hn : n ≤ 40000000) : CPowW i j := by
  refine ⟨h0, ?_⟩
  have h1 := bits_le h
  have : (Builtin.Int.intBits i : Int) * j ≤ 40000000 * 3 := by
    refine Int.mul_le_mul ?_ hj h0 (by omega)
    omega
  refine Int.le_trans this (by decide)

/-! ### xs[i] read for op= -/
section
variable {X : Cx}
theorem get_list : PGet X (rIxL X.K) := by
  intro pins s σ H o i ov iv Q I ro ri h
  obtain ⟨p, xs, k, z, rfl, rfl, hq, he, q⟩ := h
  cases ro
  obtain ⟨t, rfl⟩ := ri
  obtain ⟨its, r, pl, hz⟩ := I.list hq
  obtain ⟨j, h1, h2, h3, h4, h5⟩ := atI_get he
  obtain ⟨u, eu, ru⟩ := r.get h2
  have hl := r.length
  have hn := line63
  by_cases h0 : 0 ≤ k
  · have hj : k.toNat = j := by
      rw [seqIndex_of h0 h5] at h1
      exact Option.some.inj h1
    exact wpAny_getItem_list pl.isList h0 (by omega) (by rw [hj]; simpa using eu) ⟨z, H, I, ru, q⟩
  · have hj : (k + (its.toArray.size : Int)).toNat = j := by
      rw [seqIndex_neg (by omega) h4] at h1
      rw [List.size_toArray, ← hl]
      exact Option.some.inj h1
    exact wpAny_getItem_list_neg pl.isList (by omega) (by rw [List.size_toArray] <;> omega) (by omega) (by rw [hj]; simpa using eu) ⟨z, H, I, ru, q⟩
end

/-! ### xs[a:c] = ys -/
section
variable {X : Cx} {o : Expr} {lo hi : Option Expr} {to : TE} {tl th : TO} {p2 pos : Pos}
def gSlc (to : TE) (tl th : TO) : TG := fun v σ H Q => to σ H fun x H1 => tl σ H1 fun l H2 => th σ H2 fun u H3 =>
  ∃ (p b : Addr) (xs ys : List V) (a c : Int), x = .ref p ∧ v = .ref b ∧ l = some a ∧ u = some c ∧ H3 p = some (.lst xs) ∧ H3 b = some (.lst ys) ∧ p ≠ b ∧ 0 ≤ a ∧ a ≤ c ∧ c ≤ xs.length ∧ xs.length + ys.length ≤ sizeLine ∧
    Q σ (upd H3 p (.lst (xs.take a.toNat ++ ys ++ xs.drop c.toNat)))
theorem pg_slc (ho : PE X o to) (hl : PO X lo tl) (hu : PO X hi th) : PG X (.Subscript o (.Slice lo hi none p2) pos) (gSlc to tl th) := by
  refine ⟨fun pins s σ H v u Q I r z => ?_⟩
  rw [arm_assign_Subscript]
  refine wpAny_bind (wpAny_holding (thn (ho.run pins s σ H _ I z) fun ov s1 ⟨x, H1, I1, r1, q1⟩ => ?_))
  refine wpAny_bind (wpAny_holding (wpAny_Slice (thn (hl.run pins s1 σ H1 _ I1 q1) fun vl s2 ⟨l, H2, I2, pl, q2⟩ => thn (hu.run pins s2 σ H2 _ I2 q2) fun vu s3 ⟨c', H3, I3, pu, q3⟩ => ?_)))
  rw [evalPart_none]
  refine wpAny_pure ?_
  obtain ⟨p, b, xs, ys, a, c, rfl, rfl, rfl, rfl, hp, hb, hne, h0, hac, hc, hz, q⟩ := q3
  cases r1
  cases r
  cases pl with
  | int _ ta =>
    cases pu with
    | int _ tc =>
      have I4 : Inv X pins σ H3 { s3 with heap := s3.heap.push { cls := .type "slice", data := .fields #[.int a ta, .int c tc, .none] } } := I3.kept (t' := s3.toks) fun b ob q => Heap.get?_push_of_some _ q
      refine wpAny_bind (wpAny_standAt (wpAny_bind (wpAny_holding (set_slice I4 hp hb hne (Heap.IsSliceOf.new ..) ⟨ta, rfl⟩ ⟨tc, rfl⟩ h0 hac hc hz fun s' I5 => ?_))))
      exact wpAny_release ⟨σ, _, I5, q⟩
end

/-! ### repr of lists -/
section
variable {X : Cx}
mutual
theorem dp_nodict {K : PySem.W.Frag} {H : Hp} : ∀ (d : PyData) (v : V), Dp K H v d → d.hasDict = false
  | .none, _, _ => rfl
  | .bool _, _, _ => rfl
  | .int _, _, _ => rfl
  | .str _, _, _ => rfl
  | .list ds, _, h => by
    cases h with
    | lst _ a => exact dp_nodictAll ds _ a
  | .tuple ds, _, h => by
    cases h with
    | tup _ a => exact dp_nodictAll ds _ a
  | .dict _, _, h => by cases h
theorem dp_nodictAll {K : PySem.W.Frag} {H : Hp} : ∀ (ds : List PyData) (vs : List V), DpAll K H vs ds → PyData.hasDictAll ds = false
  | [], _, _ => rfl
  | d :: ds, _, h => by
    cases h with
    | cons a b =>
      show (d.hasDict || PyData.hasDictAll ds) = false
      rw [dp_nodict d _ a, dp_nodictAll ds _ b]
      rfl
end
def rReprD (K : PySem.W.Frag) : List V → Hp → VK → Prop := fun xs H Q => ∃ a d, xs = [.ref a] ∧ Dp K H (.ref a) d ∧ d.showable = true ∧ d.depth ≤ 60 ∧ d.shown.length ≤ sizeLine ∧ Q (.str d.shown) H
theorem call_reprD (hG : X.A.guards = some []) (hu : X.A.units + 64 < cLine) : CallR X (.builtin "repr") (rReprD X.K) := by
  intro pins s σ H xs us Q I r h
  obtain ⟨a, d, rfl, hd, hs, hdp, hz, q⟩ := h
  obtain ⟨u, rfl, rfl⟩ := vals1 r
  obtain ⟨as, rd⟩ := Dp.reads I d _ _ hd rfl
  exact repr_of_reads' rd hs (fun z => by rw [dp_nodict d _ hd] at z; cases z) hG (by omega) (fun b o e => e) (fun h' u tk k => ⟨.str d.shown, H, I.kept k, ⟨u, rfl⟩, q⟩) hz
end
end Xk

set_option Elab.async false
set_option linter.all false
set_option maxRecDepth 100000
namespace Xk
open PySem PySem.Spec PyProof.Rows L2
/-! ### list(range(a, b, c)) -/
def rg3V (i c : Int) (n : Nat) : List V := (List.range n).map fun k => V.int (i + (k : Nat) * c)
theorem rg3V_length (i c : Int) (n : Nat) : (rg3V i c n).length = n := by unfold rg3V; simp
theorem vals_rg3 {i c : Int} {n : Nat} {acc : Array Value} (h : ItemsOf (fun k v => ∃ t, v = .int (i + k * c) t) acc n) : Vals (rg3V i c n) acc.toList := by
  have e : acc.toList.length = n := by rw [Array.length_toList]; exact h.1
  unfold rg3V
  rw [← e]
  refine vals_of_get _ (fun k => V.int (i + (k : Nat) * c)) fun j u hu => ?_
  exact h.2 j u (by simpa using hu)
def tLst3 (ta : TA) : TE := fun σ H Q => ta σ H fun vs H1 => ∃ (i j c : Int) (n : Nat), vs = [.int i, .int j, .int c] ∧ RgC i j c n ∧ n ≤ 2 ^ 24 ∧ ∀ q, H1 q = none → Q (.ref q) (upd H1 q (.lst (rg3V i c n)))
section
variable {X : Cx} {a b c : Expr} {ta : TA} {p pos p1 pos1 : Pos}
theorem pe_listRg3 (calm : X.calm = true) (hl : Gl X "list") (ml : X.mg "list" = none) (hg : Gl X "range") (hm : X.mg "range" = none) (ha : PA X [a, b, c] ta)
    (hs : starEach [a, b, c] X.env = (false, eval a X.env) :: starEach [b, c] X.env := by rfl) (hpl : (backTo pos (starEach [b, c] X.env)).any (·.1) = false := by rfl)
    (na : starEach [Expr.Call (.Name "range" p) [a, b, c] [] pos] X.env = (false, eval (Expr.Call (.Name "range" p) [a, b, c] [] pos) X.env) :: starEach [] X.env := by rfl) :
    PE X (.Call (.Name "list" p1) [.Call (.Name "range" p) [a, b, c] [] pos] [] pos1) (tLst3 ta) := by
  refine ⟨fun pins s σ H Q I z => ?_⟩
  refine Call_ (ld_blt I hl ml boot_list (PyProof.Rows.callWith_type1 (args_cons (Call_ (ld_blt I hg hm boot_range (PyProof.Rows.callWith_type1 (thn (ha.run pos pins s σ H _ I z) fun us s1 ⟨vs, H1, I1, r1, q1⟩ => ?_) hs hpl))) na) na))
  obtain ⟨i, j, k, n, e, ⟨c0, c1, c2, c3⟩, hn, q⟩ := q1
  subst e
  cases r1 with
  | cons r rr =>
    cases rr with
    | cons r' rr =>
      cases rr with
      | cons r'' rr =>
        cases rr
        obtain ⟨t, rfl⟩ := r
        obtain ⟨t', rfl⟩ := r'
        obtain ⟨t'', rfl⟩ := r''
        refine call_range_3 c0 (args_nil ?_) (.inl (PyProof.noPylong_small c1))
        have I2 : Inv X pins σ H1 { s1 with heap := s1.heap.push { cls := .type "range", data := .fields #[.int i t, .int j t', .int k t''] }, toks := s1.toks } := I1.kept fun b o e => Heap.get?_push_of_some _ e
        refine call_list_range (n := n) (I2.ok.hd calm) (IsRange.new ..) c2 c3 hn fun h' tk acc c' hk e' hi => ?_
        refine ⟨.ref _, upd H1 _ (.lst (rg3V i k n)), I2.laid hk (Nat.le_refl _) (show ObjOk X.prog X.w _ _ _ (.lst (rg3V i k n)) from ⟨?_, acc.toList, c', vals_rg3 hi, ?_⟩), rfl, q _ (I2.hok.fresh (Nat.le_refl _))⟩
        · rw [rg3V_length]; exact hn
        · rw [Array.toArray_toList]; exact e'
end
end Xk

set_option Elab.async false
set_option linter.all false
set_option maxRecDepth 100000
namespace Xk
open PySem PySem.Spec PyProof.Rows L2

section
variable {P : Program} {w : World} {K : PySem.W.Frag} {mg : Str → Option Value} {base : Heap}
/-- a def by its body, the guards known, nothing raised -/
theorem okG {x qual : Str} {st : Stmt} {f : Addr} {fd : FuncData} {N ps : List Str} {k : Nat} {sp : Sp} (F : Fun K x qual st f fd) (S : FnScope N ps (defScope st)) (cnt : ∀ vs H Q E, sp vs H Q E → vs.length = ps.length)
    (body : ∀ (cdv : Value) (A : Around) (ou : List Env) (t : Shared) (H : Hp) (vs : List V) (Q : VK) (E : XK), A.guards = some [] → Room k (A.deeper (envOfC qual (defScope st) t.heap.objs.size f cdv)) → sp vs H Q E →
      ∃ r, PSs (cxOf CX0 P w K mg base N qual (defScope st) f cdv A ou t H E).nox (defBody st) r ∧ r ⟨fun _ H' => Q .non H', Q, fun _ _ => False, fun _ _ => False⟩ (L2.start N vs) H) : FnG P w K mg base CX0 (k + 1) f fd ps sp := by
  obtain ⟨oc, od, kV, doc, pm, an, cdv, ct, osl, rfl, lk, hcd⟩ := F.ex
  refine fnG_of lk hcd S cnt fun A ou t H vs Q E hG hr hsp => ?_
  obtain ⟨r, h, q⟩ := body cdv A ou t H vs Q E hG hr hsp
  exact ⟨r, h.nox, q⟩
end

/-! ### words -/
section
variable {X : Cx} {x : Str} {pos pos' : Pos} {e : Expr} {te : TE} {op : Operator} {ti : TIp}
theorem sset (i : Nat) (nd : X.N.Nodup) (he : PE X e te) (hi : X.N[i]? = some x := by rfl) (hx : Loc X.env.scope x := by first | exact Or.inl rfl | exact Or.inr rfl)
    (hs : swapsWith e (some (.Name x pos')) pos.line X.env = pure false := by rfl) (hf : X.fn x = true ∨ X.env.scope.names.lookup x = some .local := by first | exact Or.inl rfl | exact Or.inr rfl) : PS X (.Assign [.Name x pos'] e pos) (tAsg te (gName i)) := ps_set nd hi hx he hs hf
theorem gset (i : Nat) (nd : X.N.Nodup) (hi : X.N[i]? = some x := by rfl) (hx : Loc X.env.scope x := by first | exact Or.inl rfl | exact Or.inr rfl) (hf : X.fn x = true ∨ X.env.scope.names.lookup x = some .local := by first | exact Or.inl rfl | exact Or.inr rfl) : PG X (.Name x pos) (gName i) := pg_name nd hi hx hf
theorem saug (i : Nat) (nd : X.N.Nodup) (he : PE X e te) (ho : PIp X op ti) (hi : X.N[i]? = some x := by rfl) (hx : Loc X.env.scope x := by first | exact Or.inl rfl | exact Or.inr rfl) (hf : X.fn x = true ∨ X.env.scope.names.lookup x = some .local := by first | exact Or.inl rfl | exact Or.inr rfl) : PS X (.AugAssign (.Name x pos') op e pos) (tAug i te ti) := ps_aug nd hi hx he ho hf
end
/-! ### the rules that speak of the written part, the part given -/
section
variable {X : Cx} (K : PySem.W.Frag) {e a b l o : Expr} {es ts : List Expr} {te ta tb tl to : TE} {t : TA} {g : TGs} {pos cpos apos p p1 p2 p3 tpos : Pos} {tg : Expr} {T id : String} {name : Str}
theorem ix_listK (hK : X.K = K := by rfl) : IxR X (rIxL K) := hK ▸ ix_list
theorem ix_tupK (hK : X.K = K := by rfl) : IxR X (rIxT K) := hK ▸ ix_tup
theorem sl_listK (hK : X.K = K := by rfl) : SlR X (rSlL K) := hK ▸ sl_list
theorem sl_tupK (hK : X.K = K := by rfl) : SlR X (rSlT K) := hK ▸ sl_tup
def rLen (K : PySem.W.Frag) : List V → Hp → VK → Prop := fun xs H Q => ∃ p ys, xs = [.ref p] ∧ (SqL K H p ys ∨ SqT K H p ys) ∧ Q (.int ys.length) H
theorem lenK (hK : X.K = K := by rfl) : CallR X (.builtin "len") (rLen K) := hK ▸ call_len_seq
def rListOf (K : PySem.W.Frag) : List V → Hp → VK → Prop := fun xs H Q => ∃ p ys, xs = [.ref p] ∧ (SqL K H p ys ∨ SqT K H p ys) ∧ ∀ l, H l = none → Q (.ref l) (upd H l (.lst ys))
theorem listK (hK : X.K = K := by rfl) : CallR X (.type "list") (rListOf K) := hK ▸ call_list_of
def rTupOf (K : PySem.W.Frag) : List V → Hp → VK → Prop := fun xs H Q => ∃ p ys, xs = [.ref p] ∧ ((SqL K H p ys ∧ ∀ l, H l = none → Q (.ref l) (upd H l (.tup ys))) ∨ (SqT K H p ys ∧ Q (.ref p) H))
theorem tupleK (hK : X.K = K := by rfl) : CallR X (.type "tuple") (rTupOf K) := hK ▸ call_tuple_of
theorem sumK (hc : X.calm = true) (hK : X.K = K := by rfl) : CallR X (.builtin "sum") (rSum K) := hK ▸ cr_sum hc
theorem minK (hc : X.calm = true) (hK : X.K = K := by rfl) : CallR X (.builtin "min") (rMin K) := hK ▸ cr_min hc
theorem maxK (hc : X.calm = true) (hK : X.K = K := by rfl) : CallR X (.builtin "max") (rMax K) := hK ▸ cr_max hc
theorem allK (hc : X.calm = true) (hK : X.K = K := by rfl) : CallR X (.builtin "all") (rAll K) := hK ▸ cr_all hc
theorem anyK (hc : X.calm = true) (hK : X.K = K := by rfl) : CallR X (.builtin "any") (rAny K) := hK ▸ cr_any hc
theorem sortedK (hK : X.K = K := by rfl) : CallR X (.builtin "sorted") (rSortedI K) := hK ▸ cr_sortedI
theorem sortedRK (hK : X.K = K := by rfl) : CallRK X (.builtin "sorted") [Str.ofString "reverse"] (rSortedKw K true [.bl true]) := hK ▸ cr_sortedRev
theorem reprK (hG : X.A.guards = some []) (hu : X.A.units + 64 < cLine) (hK : X.K = K := by rfl) : CallR X (.builtin "repr") (rReprD K) := hK ▸ call_reprD hG hu
theorem eqDK (hu : X.A.units + 64 < cLine) (hK : X.K = K := by rfl) : OpR X (compareOp .Eq) (rEqD K) := hK ▸ op_eqD hu
theorem neDK (hu : X.A.units + 64 < cLine) (hK : X.K = K := by rfl) : OpR X (compareOp .NotEq) (rNeD K) := hK ▸ op_neD hu
theorem inK (hK : X.K = K := by rfl) : OpR X (compareOp .In) (rIn K false) := hK ▸ op_in_seq
theorem notInK (hK : X.K = K := by rfl) : OpR X (compareOp .NotIn) (rIn K true) := hK ▸ op_notIn_seq
theorem lcountK (hK : X.K = K := by rfl) : MtR X "list.count" (rCntI K) := hK ▸ mt_lcount
theorem lindexK (hK : X.K = K := by rfl) : MtR X "list.index" (rIndex K) := hK ▸ mt_index
theorem getK (hK : X.K = K := by rfl) : PGet X (rIxL K) := hK ▸ get_list
theorem pi_listK (h : PE X l tl) (hK : X.K = K := by rfl) : PI X tg l (iList K tl) := hK ▸ pi_list h
theorem pi_tupK (h : PE X l tl) (hK : X.K = K := by rfl) : PI X tg l (iTup K tl) := hK ▸ pi_tup h
theorem pi_enumK {elts : List Expr} {kk : Nat} (hg : Gl X "enumerate") (hm : X.mg "enumerate" = none) (ha : PA X [e] t) (hs : starEach [e] X.env = [(false, eval e X.env)] := by rfl) (hK : X.K = K := by rfl) :
    PI X (.Tuple elts kk tpos) (.Call (.Name "enumerate" p) [e] [] pos) (iEnum K t) := hK ▸ pi_enum hg hm ha hs
theorem pi_reversedK (hg : Gl X "reversed") (hm : X.mg "reversed" = none) (ha : PA X [e] t) (hs : starEach [e] X.env = [(false, eval e X.env)] := by rfl) (hK : X.K = K := by rfl) : PI X tg (.Call (.Name "reversed" p) [e] [] pos) (iRev K t) := hK ▸ pi_reversed hg hm ha hs
theorem pe_revLK {k : Nat} (he : PE X e te) (hK : X.K = K := by rfl) : PE X (.Subscript e (.Slice none none (some (.UnaryOp .USub (.Constant (.int 1) k p1) p2)) p3) pos) (tRevL K te) := hK ▸ pe_revL he
theorem pg_tupK {k : Nat} (n : Nat) (hc : X.calm = true) (h : PGs X es g) (hn : (assignEach es X.env).length = n := by rfl) (hst : (assignEach es X.env).findIdx? (·.1) = none := by rfl) (hK : X.K = K := by rfl) : PG X (.Tuple es k pos) (gTup K n g) := hK ▸ pg_tup hc h hn hst
theorem pi_zipK {e2 : Expr} {elts : List Expr} {kk : Nat} (hg : Gl X "zip") (hm : X.mg "zip" = none) (ha : PA X [e, e2] t)
    (hs : starEach [e, e2] X.env = (false, eval e X.env) :: starEach [e2] X.env := by rfl) (hpl : (backTo pos (starEach [e2] X.env)).any (·.1) = false := by rfl) (hK : X.K = K := by rfl) :
    PI X (.Tuple elts kk tpos) (.Call (.Name "zip" p) [e, e2] [] pos) (iZip K t) := hK ▸ pi_zip hg hm ha hs hpl
theorem pe_bmK {r : V → List V → Hp → VK → Prop} (pa : PlainAttrs T) (slot : Slot T name id) (hty : typeOf (.builtin id) = pure (.type "method_descriptor")) (hm : MtR X id r) (ho : PE X o to) (ha : PA X (e :: es) t)
    (hbase : attributeBase o name X.env (eval o X.env) = eval o X.env := by rfl)
    (hfew : ((backTo cpos (starEach (e :: es) X.env)).all (fun x => !x.1) && (backToKw cpos (keywordEach [] X.env)).all (fun x => x.1.isSome) && decide ((e :: es).length + ([] : List Keyword).length + (if ([] : List Keyword).isEmpty then 0 else 1) < 30)) = true := by rfl)
    (hline : (apos.endLine == cpos.line) = true := by rfl) (hs : starEach (e :: es) X.env = (false, eval e X.env) :: starEach es X.env := by rfl) (hplain : (backTo cpos (starEach es X.env)).any (·.1) = false := by rfl) (hK : X.K = K := by rfl) :
    PE X (.Call (.Attribute o name apos) (e :: es) [] cpos) (tBM K T r to t) := hK ▸ pe_bm pa slot hty hm ho ha hbase hfew hline hs hplain
theorem pe_bm0K {r : V → List V → Hp → VK → Prop} (pa : PlainAttrs T) (slot : Slot T name id) (hty : typeOf (.builtin id) = pure (.type "method_descriptor")) (hm : MtR X id r) (ho : PE X o to)
    (hbase : attributeBase o name X.env (eval o X.env) = eval o X.env := by rfl) (hline : (apos.endLine == cpos.line) = true := by rfl) (hK : X.K = K := by rfl) : PE X (.Call (.Attribute o name apos) [] [] cpos) (tBM0 K T r to) := hK ▸ pe_bm0 pa slot hty hm ho hbase hline
def tTruth (K : PySem.W.Frag) (ta : TE) : TT := fun σ H Q => ta σ H fun x H' => ∃ k, TruV K x H' k ∧ Q k H'
theorem pt_truthK (ha : PE X a ta) (he : ∀ whole, isTrue a X.env whole = (do let v ← whole; standAt a.pos; holding [v] (truthy v)) := by intro _; rfl) (hK : X.K = K := by rfl) : PT X a (tTruth K ta) := hK ▸ pt_truth ha he
end
end Xk

set_option Elab.async false
set_option linter.all false
set_option maxRecDepth 100000
namespace Xk
open PySem PySem.Spec PyProof.Rows L2

section
variable {K : PySem.W.Frag} {σ : L2.St} {H : Hp} {Q : VK} {R : List V → Hp → Prop} {ta tb te tc tv : TE} {tA : TA} {t u : TT} {v x y : V} {i j : Int} {Qb : Bool → Hp → Prop}
  {nx bk ct : L2.St → Hp → Prop} {rt : VK} {s1 s2 : TS} {g g1 : TG} {gs : TGs}
/-! ### expressions -/
theorem r_var {n : Nat} (h : σ[n]? = some (some v)) (q : Q v H) : tVar n σ H Q := ⟨v, h, q⟩
theorem r_c (q : Q v H) : tC v σ H Q := q
theorem r_op {r : R2} (h : ta σ H fun x H1 => tb σ H1 fun y H2 => r x y H2 Q) : tOp r ta tb σ H Q := h
theorem r_un {r : V → Hp → VK → Prop} (h : ta σ H fun x H1 => r x H1 Q) : tUn r ta σ H Q := h
theorem r_I0 {f : Int → Int → V} (q : Q (f i j) H) : rI0 f (.int i) (.int j) H Q := ⟨i, j, rfl, rfl, q⟩
theorem r_I {C : Int → Int → Prop} {f : Int → Int → V} (hc : C i j) (q : Q (f i j) H) : rI C f (.int i) (.int j) H Q := ⟨i, j, rfl, rfl, hc, q⟩
theorem r_U {f : Int → V} (q : Q (f i) H) : rU f (.int i) H Q := ⟨i, rfl, q⟩
theorem r_ixL {p : Addr} {xs : List V} (h : SqL K H p xs) (ha : atI xs i = some v) (q : Q v H) : rIxL K (.ref p) (.int i) H Q := ⟨p, xs, i, v, rfl, rfl, h, ha, q⟩
theorem r_ixT {p : Addr} {xs : List V} (h : SqT K H p xs) (ha : atI xs i = some v) (q : Q v H) : rIxT K (.ref p) (.int i) H Q := ⟨p, xs, i, v, rfl, rfl, h, ha, q⟩
theorem r_nil (q : R [] H) : tNil σ H R := q
theorem r_cons (h : ta σ H fun x H1 => tA σ H1 fun xs H2 => R (x :: xs) H2) : tCons ta tA σ H R := h
theorem r_lst (h : tA σ H fun xs H1 => xs.length ≤ sizeLine ∧ ∀ p, H1 p = none → Q (.ref p) (upd H1 p (.lst xs))) : tLst tA σ H Q := h
theorem r_tup (h : tA σ H fun xs H1 => xs.length ≤ sizeLine ∧ ∀ p, H1 p = none → Q (.ref p) (upd H1 p (.tup xs))) : tTup tA σ H Q := h
theorem r_call {sp : Sp} {dvs : List V} {E : XK} (h : tA σ H fun vs H1 => sp (vs ++ dvs) H1 Q E) : tCall sp dvs E tA σ H Q := h
theorem r_callK {sp : Sp} {gV : List V → List V → List V} {E : XK} {tk : TA} (h : tA σ H fun vs H1 => tk σ H1 fun zs H2 => sp (gV vs zs) H2 Q E) : tCallK sp gV E tA tk σ H Q := h
theorem r_cb {r : List V → Hp → VK → Prop} (h : tA σ H fun vs H1 => r vs H1 Q) : tCB r tA σ H Q := h
theorem r_ckw {r : List V → List V → Hp → VK → Prop} {tk : TA} (h : tA σ H fun vs H1 => tk σ H1 fun zs H2 => r vs zs H2 Q) : tCKw r tA tk σ H Q := h
theorem r_sl {r : V → Option Int → Option Int → Hp → VK → Prop} {tl th : TO} (h : te σ H fun x H1 => tl σ H1 fun l H2 => th σ H2 fun u H3 => r x l u H3 Q) : tSl r te tl th σ H Q := h
theorem r_part {Qo : Option Int → Hp → Prop} (h : te σ H fun x H1 => ∃ i, x = .int i ∧ Qo (some i) H1) : tPart te σ H Qo := h
theorem r_nopart {Qo : Option Int → Hp → Prop} (h : Qo none H) : tNoPart σ H Qo := h
theorem r_exi {Qo : Int → Prop} (h : Qo i) : ∃ j, V.int i = .int j ∧ Qo j := ⟨i, rfl, h⟩
theorem r_exb {b : Bool} {Qo : Bool → Prop} (h : Qo b) : ∃ j, V.bl b = .bl j ∧ Qo j := ⟨b, rfl, h⟩
theorem r_slL {p : Addr} {xs : List V} {lo hi : Option Int} (h : SqL K H p xs) (q : ∀ n, H n = none → Q (.ref n) (upd H n (.lst (cutV xs lo hi)))) : rSlL K (.ref p) lo hi H Q := ⟨p, xs, rfl, h, q⟩
theorem r_bm {T : String} {r : V → List V → Hp → VK → Prop} (h : te σ H fun x H1 => tyV K T x H1 ∧ tA σ H1 fun xs H2 => r x xs H2 Q) : tBM K T r te tA σ H Q := h
theorem r_bm0 {T : String} {r : V → List V → Hp → VK → Prop} (h : te σ H fun x H1 => tyV K T x H1 ∧ r x [] H1 Q) : tBM0 K T r te σ H Q := h
theorem ty_list {p : Addr} {xs : List V} (h : SqL K H p xs) : tyV K "list" (.ref p) H := .inl ⟨rfl, xs, h⟩
theorem r_append {p : Addr} {xs : List V} {y : V} (h : H p = some (.lst xs)) (hz : xs.length < sizeLine) (q : Q .non (upd H p (.lst (xs ++ [y])))) : rAppend (.ref p) [y] H Q := ⟨p, xs, y, rfl, rfl, h, hz, q⟩
theorem r_if {tif : TT} (h : tif σ H fun c H1 => if c = true then ta σ H1 Q else tb σ H1 Q) : tIf tif ta tb σ H Q := h
theorem r_andV (h : ta σ H fun x H1 => ∃ c, x = .bl c ∧ if c = true then tb σ H1 Q else Q (.bl false) H1) : tAndV ta tb σ H Q := h
theorem r_orV (h : ta σ H fun x H1 => ∃ c, x = .bl c ∧ if c = true then Q (.bl true) H1 else tb σ H1 Q) : tOrV ta tb σ H Q := h
theorem r_notV (h : ta σ H fun x H1 => ∃ c, x = .bl c ∧ Q (.bl (!c)) H1) : tNotV ta σ H Q := h
theorem r_eqI (q : Q (.bl (decide (i = j))) H) : rEq (.int i) (.int j) H Q := by
  refine ⟨rfl, ?_⟩
  have : decide (V.int i = V.int j) = decide (i = j) := by simp
  rw [this]
  exact q
theorem r_neI (q : Q (.bl (!decide (i = j))) H) : rNe (.int i) (.int j) H Q := by
  refine ⟨rfl, ?_⟩
  have : decide (V.int i = V.int j) = decide (i = j) := by simp
  rw [this]
  exact q
theorem r_eqS {a b : Str} (q : Q (.bl (decide (a = b))) H) : rEq (.str a) (.str b) H Q := by
  refine ⟨rfl, ?_⟩
  have : decide (V.str a = V.str b) = decide (a = b) := by simp
  rw [this]
  exact q
theorem r_neS {a b : Str} (q : Q (.bl (!decide (a = b))) H) : rNe (.str a) (.str b) H Q := by
  refine ⟨rfl, ?_⟩
  have : decide (V.str a = V.str b) = decide (a = b) := by simp
  rw [this]
  exact q
theorem r_len {p : Addr} {xs : List V} (h : SqL K H p xs) (q : Q (.int xs.length) H) : Xk.rLen K [.ref p] H Q := ⟨p, xs, rfl, .inl h, q⟩
theorem r_listOf {p : Addr} {xs : List V} (h : SqL K H p xs) (q : ∀ l, H l = none → Q (.ref l) (upd H l (.lst xs))) : rListOf K [.ref p] H Q := ⟨p, xs, rfl, .inl h, q⟩
theorem r_sum {p : Addr} {ns : List Int} (h : SqL K H p (ns.map V.int)) (q : Q (.int ns.sum) H) : rSum K [.ref p] H Q := ⟨p, ns, rfl, h, q⟩
theorem r_notT {A B : Prop} (h : B) : if (!true) = true then A else B := by simpa using h
theorem r_notF {A B : Prop} (h : A) : if (!false) = true then A else B := by simpa using h
/-! ### tests -/
theorem r_test (h : te σ H fun x H' => ∃ k, x = .bl k ∧ Qb k H') : tTest te σ H Qb := h
theorem r_tB (h : te σ H fun x H' => ∃ k, x = .bl k ∧ Qb k H') : tB te σ H Qb := h
theorem r_tand (h : t σ H fun c H1 => if c = true then u σ H1 Qb else Qb false H1) : tAnd t u σ H Qb := h
theorem r_tor (h : t σ H fun c H1 => if c = true then Qb true H1 else u σ H1 Qb) : tOr t u σ H Qb := h
theorem r_tnot (h : t σ H fun c H1 => Qb (!c) H1) : tNot t σ H Qb := h
theorem r_yes (h : Qb true H) : tYes σ H Qb := h
theorem r_dec {p : Prop} [Decidable p] {A B : Prop} (h1 : p → A) (h2 : ¬p → B) : if decide p = true then A else B := by
  by_cases h : p
  · rw [decide_eq_true h]; exact h1 h
  · rw [decide_eq_false h]; exact h2 h
theorem r_ndec {p : Prop} [Decidable p] {A B : Prop} (h1 : ¬p → A) (h2 : p → B) : if (!decide p) = true then A else B := by
  by_cases h : p
  · rw [decide_eq_true h]; exact h2 h
  · rw [decide_eq_false h]; exact h1 h
theorem r_itT {A B : Prop} (h : A) : if true = true then A else B := by rw [if_pos rfl]; exact h
theorem r_itF {A B : Prop} (h : B) : if false = true then A else B := by rw [if_neg Bool.false_ne_true]; exact h
/-! ### statements -/
theorem r_seq (h : s1 ⟨s2 ⟨nx, rt, bk, ct⟩, rt, bk, ct⟩ σ H) : tSeq s1 s2 ⟨nx, rt, bk, ct⟩ σ H := h
theorem r_cut {u : TS} (Mid : L2.St → Hp → Prop) (h : s1 ⟨Mid, rt, bk, ct⟩ σ H) (g : ∀ σ' H', Mid σ' H' → u ⟨nx, rt, bk, ct⟩ σ' H') : C8.tCut s1 u ⟨nx, rt, bk, ct⟩ σ H := ⟨Mid, h, g⟩
theorem r_next (h : nx σ H) : tNext ⟨nx, rt, bk, ct⟩ σ H := h
theorem r_asg (h : te σ H fun x H1 => g x σ H1 nx) : tAsg te g ⟨nx, rt, bk, ct⟩ σ H := h
theorem r_ret (h : te σ H rt) : tRet te ⟨nx, rt, bk, ct⟩ σ H := h
theorem r_drop (h : te σ H fun _ H1 => nx σ H1) : tDrop te ⟨nx, rt, bk, ct⟩ σ H := h
theorem r_ifS (h : t σ H fun b H1 => if b = true then s1 ⟨nx, rt, bk, ct⟩ σ H1 else s2 ⟨nx, rt, bk, ct⟩ σ H1) : tIfS t s1 s2 ⟨nx, rt, bk, ct⟩ σ H := h
theorem r_par {a b : Nat} (h : tA σ H fun vs H1 => ∃ v w, vs = [v, w] ∧ nx ((σ.set a (some v)).set b (some w)) H1) : tPar a b tA ⟨nx, rt, bk, ct⟩ σ H := h
theorem r_ex2 {f : V → V → Prop} (h : f x y) : ∃ v w, [x, y] = [v, w] ∧ f v w := ⟨x, y, rfl, h⟩
theorem r_brk (h : bk σ H) : tBreak ⟨nx, rt, bk, ct⟩ σ H := h
theorem r_cont (h : ct σ H) : tCont ⟨nx, rt, bk, ct⟩ σ H := h
theorem r_aug {n : Nat} {ti : TIp} (h : σ[n]? = some (some x)) (q : te σ H fun y H1 => ti x y H1 fun z H2 => nx (σ.set n (some z)) H2) : tAug n te ti ⟨nx, rt, bk, ct⟩ σ H := ⟨x, h, q⟩
theorem r_ipI {f : Int → Int → Int} (q : Q (.int (f i j)) H) : ipI f (.int i) (.int j) H Q := ⟨i, j, rfl, rfl, q⟩
theorem r_for {wi : TI} (h : wi σ H fun J H1 => ∃ W : Nat → Nat → L2.St → Hp → Prop, (∃ m, W 0 m σ H1) ∧ ∀ i m σ H, W i m σ H → (J.stop i H ∧ nx σ H) ∨ (J.go i H ∧ ∃ N : L2.St → Hp → Prop, (∀ σ' H', N σ' H' → ∃ m', m' < m ∧ W (i + 1) m' σ' H') ∧
    ∀ x H', J.yld i H x H' → g x σ H' fun σ2 H2 => s1 ⟨N, rt, nx, N⟩ σ2 H2)) : tFor wi g s1 ⟨nx, rt, bk, ct⟩ σ H := h
theorem r_augS {tget : V → V → Hp → VK → Prop} {ti : TIp} {ts : TSet} (h : ta σ H fun o H1 => tb σ H1 fun i H2 => tget o i H2 fun x H3 => te σ H3 fun y H4 => ti x y H4 fun z H5 => ts o i z H5 fun H6 => nx σ H6) : tAugS ta tb te tget ti ts ⟨nx, rt, bk, ct⟩ σ H := h
/-! ### targets -/
variable {Qs : L2.St → Hp → Prop}
theorem r_name {n : Nat} (q : Qs (σ.set n (some v)) H) : gName n v σ H Qs := q
theorem r_gtup {n : Nat} {p : Addr} {xs : List V} (h : SqT K H p xs) (hl : xs.length = n) (q : gs xs σ H Qs) : gTup K n gs (.ref p) σ H Qs := ⟨p, xs, rfl, h, hl, q⟩
theorem r_gcons {vs : List V} (q : g v σ H fun σ' H' => gs vs σ' H' Qs) : gCons g gs (v :: vs) σ H Qs := ⟨v, vs, rfl, q⟩
theorem r_gnil (q : Qs σ H) : gNil [] σ H Qs := ⟨rfl, q⟩
theorem r_gsub {ts : TSet} (h : te σ H fun o H1 => tv σ H1 fun i H2 => ts o i v H2 fun H3 => Qs σ H3) : gSub te tv ts v σ H Qs := h
theorem r_gslc {tl th : TO} (h : te σ H fun x H1 => tl σ H1 fun l H2 => th σ H2 fun u H3 => ∃ (p b : Addr) (xs ys : List V) (a c : Int), x = .ref p ∧ v = .ref b ∧ l = some a ∧ u = some c ∧ H3 p = some (.lst xs) ∧ H3 b = some (.lst ys) ∧ p ≠ b ∧ 0 ≤ a ∧ a ≤ c ∧ c ≤ xs.length ∧ xs.length + ys.length ≤ sizeLine ∧
    Qs σ (upd H3 p (.lst (xs.take a.toNat ++ ys ++ xs.drop c.toNat)))) : gSlc te tl th v σ H Qs := h
theorem r_setL {Qh : Hp → Prop} {p : Addr} {xs : List V} {n : Nat} (h : H p = some (.lst xs)) (hi : ixN xs.length i = some n) (q : Qh (upd H p (.lst (xs.set n v)))) : rSetL (.ref p) (.int i) v H Qh := ⟨p, xs, i, n, rfl, rfl, h, hi, q⟩
end
theorem szL {n : Nat} (h : Nat.ble n 16777216 = true) : n ≤ sizeLine := Nat.le_of_ble_eq_true h
theorem at_0 {x : V} {xs : List V} : atI (x :: xs) 0 = some x := at_of (j := 0) rfl rfl
theorem at_1 {x y : V} {xs : List V} : atI (x :: y :: xs) 1 = some y := at_of (j := 1) rfl rfl
theorem at_2 {x y z : V} {xs : List V} : atI (x :: y :: z :: xs) 2 = some z := at_of (j := 2) rfl rfl
theorem at_3 {x y z u : V} {xs : List V} : atI (x :: y :: z :: u :: xs) 3 = some u := at_of (j := 3) rfl rfl
theorem sq {K : PySem.W.Frag} {H : Hp} {p : Addr} {xs : List V} (h : H p = some (.lst xs)) : SqL K H p xs := .inl (.inl h)
theorem sqT {K : PySem.W.Frag} {H : Hp} {p : Addr} {xs : List V} (h : H p = some (.tup xs)) : SqT K H p xs := .inl (.inl h)

section
variable {w : World} {H : Hp} {σ : L2.St} {Q : VK} {te : TE} {tA : TA} {a : Addr} {k : Int} {S : Int → Bool} {n : Nat}
theorem r_set0 (q : ∀ p, H p = none → Q (.ref p) (upd H p (SetO w p (fun _ => false) 0))) : rSet0 w [] H Q := ⟨rfl, q⟩
theorem r_sin (h : H a = some (SetO w a S n)) (q : Q (.bl (S k)) H) : rSIn w (.int k) (.ref a) H Q := ⟨k, a, S, n, rfl, rfl, h, q⟩
theorem r_snotin (h : H a = some (SetO w a S n)) (q : Q (.bl (!S k)) H) : rSNotIn w (.int k) (.ref a) H Q := ⟨k, a, S, n, rfl, rfl, h, q⟩
theorem r_sadd0 (h : te σ H fun x H1 => (∃ a S n, x = V.ref a ∧ H1 a = some (SetO w a S n)) ∧ tA σ H1 fun xs H2 => rSAdd w x xs H2 Q) : tSAdd w te tA σ H Q := h
theorem r_sadd (h : H a = some (SetO w a S n)) (hn : n + 1 < 4096) (q : Q .non (upd H a (SetO w a (fun j => S j || decide (j = k)) (if S k = true then n else n + 1)))) : rSAdd w (.ref a) [.int k] H Q := ⟨a, k, S, n, rfl, rfl, h, hn, q⟩
end
/-! ### what a for walks -/
section
variable {K : PySem.W.Frag} {σ : L2.St} {H : Hp} {tA : TA} {te : TE} {R : L2.It → Hp → Prop}
theorem r_iEnum (h : tA σ H fun vs H1 => ∃ a xs, vs = [.ref a] ∧ SqL K H1 a xs ∧ R (Ite K a) H1) : iEnum K tA σ H R := h
theorem r_iList (h : te σ H fun x H1 => ∃ a, x = .ref a ∧ (∃ xs, SqL K H1 a xs) ∧ R (Itl K a) H1) : iList K te σ H R := h
theorem r_iTup (h : te σ H fun x H1 => ∃ a, x = .ref a ∧ (∃ xs, SqT K H1 a xs) ∧ R (Itt K a) H1) : iTup K te σ H R := h
theorem r_iRng1 (h : tA σ H fun vs H1 => ∃ j : Int, vs = [.int j] ∧ -(2 ^ 62) ≤ j ∧ j < 2 ^ 62 ∧ R (Itr 0 j.toNat) H1) : iRng1 tA σ H R := h
theorem r_iRng2 (h : tA σ H fun vs H1 => ∃ i j : Int, vs = [.int i, .int j] ∧ (-(2 ^ 62) ≤ i ∧ i < 2 ^ 62 ∧ -(2 ^ 62) ≤ j ∧ j < 2 ^ 62) ∧ R (Itr i (j - i).toNat) H1) : iRng2 tA σ H R := h
theorem r_iRng3 (h : tA σ H fun vs H1 => ∃ (i j c : Int) (n : Nat), vs = [.int i, .int j, .int c] ∧ RgC i j c n ∧ R (Itc i c n) H1) : iRng3 tA σ H R := h
theorem r_iZip (h : tA σ H fun vs H1 => ∃ a b xs ys, vs = [.ref a, .ref b] ∧ SqL K H1 a xs ∧ SqL K H1 b ys ∧ R (Itz K a b) H1) : iZip K tA σ H R := h
theorem r_lc {wi : TI} {g : TG} {tt : TT} {vs : List Nat} {Q : VK} (h : wi σ H fun J H1 => ∀ D, H1 D = none → ∃ W : Nat → Nat → Hp → Prop, (∃ m, W 0 m (upd H1 D (.lst []))) ∧ ∀ i m H, W i m H →
  (J.stop i H ∧ Q (.ref D) H) ∨ (J.go i H ∧ ∃ Nx : Hp → Prop, (∀ H', Nx H' → ∃ m', m' < m ∧ W (i + 1) m' H') ∧ ∀ x H', J.yld i H x H' → g x (wipe σ vs) H' fun σ2 H2 => wipe σ2 vs = wipe σ vs ∧ tt σ2 H2 fun b H3 =>
    if b = true then te σ2 H3 fun y H4 => ∃ acc, H4 D = some (.lst acc) ∧ acc.length < sizeLine ∧ Nx (upd H4 D (.lst (acc ++ [y]))) else Nx H3)) : tLc wi g tt te vs σ H Q := h
theorem r_lrg {tr : L2.St → Hp → (Int → Int → Hp → Prop) → Prop} {Q : VK} (h : tr σ H fun a b H1 => RgOk a b ∧ ∀ q, H1 q = none → Q (.ref q) (upd H1 q (.lst (rgV a b)))) : tLstRg tr σ H Q := h
theorem r_rg1 {Q : Int → Int → Hp → Prop} (h : te σ H fun x H1 => ∃ n, x = .int n ∧ Q 0 n H1) : tRg1 te σ H Q := h
theorem r_rg2 {tb : TE} {Q : Int → Int → Hp → Prop} (h : te σ H fun x H1 => tb σ H1 fun y H2 => ∃ i j, x = .int i ∧ y = .int j ∧ Q i j H2) : tRg2 te tb σ H Q := h
theorem r_l3 {Q : VK} (h : tA σ H fun vs H1 => ∃ (i j c : Int) (n : Nat), vs = [.int i, .int j, .int c] ∧ RgC i j c n ∧ n ≤ 2 ^ 24 ∧ ∀ q, H1 q = none → Q (.ref q) (upd H1 q (.lst (rg3V i c n)))) : tLst3 tA σ H Q := h
theorem r_revL {Q : VK} (h : te σ H fun x H1 => ∃ a xs, x = .ref a ∧ SqL K H1 a xs ∧ ∀ p, H1 p = none → Q (.ref p) (upd H1 p (.lst xs.reverse))) : tRevL K te σ H Q := h
theorem r_exr {a : Addr} {f : Addr → Prop} (h : f a) : ∃ b, V.ref a = .ref b ∧ f b := ⟨a, rfl, h⟩
end
section
variable {σ : L2.St} {H : Hp} {c : TT} {tb : TS} {nx bk ct : L2.St → Hp → Prop} {rt : VK}
theorem r_while (W : Nat → L2.St → Hp → Prop) (m : Nat) (h0 : W m σ H) (hs : ∀ m σ H, W m σ H → c σ H fun b H1 => if b = true then ∃ N : L2.St → Hp → Prop, (∀ σ' H', N σ' H' → ∃ m', m' < m ∧ W m' σ' H') ∧ tb ⟨N, rt, nx, N⟩ σ H1 else nx σ H1) : tWhile c tb ⟨nx, rt, bk, ct⟩ σ H :=
  ⟨W, ⟨m, h0⟩, hs⟩
theorem r_turn {W : Nat → L2.St → Hp → Prop} {m : Nat} (h : tb ⟨fun σ' H' => ∃ m', m' < m ∧ W m' σ' H', rt, nx, fun σ' H' => ∃ m', m' < m ∧ W m' σ' H'⟩ σ H) : ∃ N : L2.St → Hp → Prop, (∀ σ' H', N σ' H' → ∃ m', m' < m ∧ W m' σ' H') ∧ tb ⟨N, rt, nx, N⟩ σ H :=
  ⟨_, fun _ _ h => h, h⟩
theorem r_itD {p : Prop} [Decidable p] {A B : Prop} (hp : p) (h : A) : if decide p = true then A else B := by rw [decide_eq_true hp]; exact h
theorem r_itDF {p : Prop} [Decidable p] {A B : Prop} (hp : ¬p) (h : B) : if decide p = true then A else B := by rw [decide_eq_false hp]; exact h
theorem r_itN {p : Prop} [Decidable p] {A B : Prop} (hp : ¬p) (h : A) : if (!decide p) = true then A else B := by rw [decide_eq_false hp]; exact h
theorem r_itNF {p : Prop} [Decidable p] {A B : Prop} (hp : p) (h : B) : if (!decide p) = true then A else B := by rw [decide_eq_true hp]; exact h
theorem r_popAt {l : Addr} {xs : List V} {i : Int} {k : Nat} {y : V} {Q : VK} (h : H l = some (.lst xs)) (e : i = (k : Int)) (hk : xs[k]? = some y) (hz : k < 2 ^ 63) (q : Q y (upd H l (.lst (xs.eraseIdx k)))) : rPopAt (.ref l) [.int i] H Q := by
  subst e
  have hl : k < xs.length := (List.getElem?_eq_some_iff.mp hk).1
  exact ⟨l, xs, k, k, y, rfl, rfl, h, by omega, by omega, seqIndex_of (by omega) (by omega), hk, q⟩
end
/-! ### what stands in a heap -/
/-- all but r stands as it was -/
def Sx (r : Addr) (H H' : Hp) : Prop := ∀ b o, b ≠ r → H b = some o → H' b = some o
section
variable {H H' : Hp} {a b r : Addr} {o u : HO}
theorem upd_old (np : H a = none) (h : H b = some u) : upd H a o b = some u := (upd_ne (ne_of_none h np)).trans h
theorem upd_to (n : b ≠ a) (h : H b = some u) : upd H a o b = some u := (upd_ne n).trans h
theorem same_to (s : Same H H') (h : H b = some u) : H' b = some u := s b u h
theorem sx_to (s : Sx r H H') (n : b ≠ r) (h : H b = some u) : H' b = some u := s b u n h
theorem sx_of (s : Same H H') : Sx r H H' := fun b o _ h => s b o h
theorem same_new (np : H a = none) : Same H (upd H a o) := fun b u h => upd_old np h
theorem same_old {H0 : Hp} (s : Same H0 H) (n : H0 a = none) : Same H0 (upd H a o) := fun b u h => upd_to (ne_of_none h n) (s b u h)
theorem Sx.refl : Sx r H H := fun _ _ _ h => h
theorem Sx.trans {H1 : Hp} (s : Sx r H H1) (t : Sx r H1 H') : Sx r H H' := fun b o n h => t b o n (s b o n h)
theorem Sx.put : Sx r H (L2.upd H r o) := fun b u n h => upd_to n h
theorem Sx.new (np : H a = none) : Sx r H (L2.upd H a o) := fun b u _ h => upd_old np h
theorem Sx.old {H0 : Hp} (s : Sx r H0 H) (n : H0 a = none) : Sx r H0 (L2.upd H a o) := fun b u hb h => upd_to (ne_of_none h n) (s b u hb h)
theorem Sx.same {H1 : Hp} (s : Sx r H H1) (t : Same H1 H') : Sx r H H' := s.trans (sx_of t)
theorem Sx.free (s : Sx r H H') (hr : H' r = some u) (h : H' a = none) : H a = none := by
  cases q : H a with
  | none => rfl
  | some o =>
    by_cases e : a = r
    · subst e; rw [hr] at h; cases h
    · rw [s a o e q] at h; cases h
end
end Xk
/-- one step whose answer is known -/
local macro_rules | `(tactic| fail "one") => `(tactic| with_reducible first
  | refine Xk.r_c ?_ | refine Xk.r_op ?_ | refine Xk.r_un ?_ | refine Xk.r_I0 ?_ | refine Xk.r_U ?_ | refine Xk.r_nil ?_ | refine Xk.r_cons ?_ | refine Xk.r_lst ?_ | refine Xk.r_tup ?_
  | refine Xk.r_call ?_ | refine Xk.r_callK ?_ | refine Xk.r_cb ?_ | refine Xk.r_ckw ?_ | refine Xk.r_sl ?_ | refine Xk.r_part ?_ | refine Xk.r_nopart ?_ | refine Xk.r_exi ?_ | refine Xk.r_exb ?_ | refine Xk.r_bm ?_ | refine Xk.r_bm0 ?_
  | refine Xk.r_if ?_ | refine Xk.r_andV ?_ | refine Xk.r_orV ?_ | refine Xk.r_notV ?_ | refine Xk.r_eqI ?_ | refine Xk.r_neI ?_ | refine Xk.r_eqS ?_ | refine Xk.r_neS ?_
  | refine Xk.r_test ?_ | refine Xk.r_tB ?_ | refine Xk.r_tand ?_ | refine Xk.r_tor ?_ | refine Xk.r_tnot ?_ | refine Xk.r_yes ?_ | refine Xk.r_itT ?_ | refine Xk.r_itF ?_ | refine Xk.r_notT ?_ | refine Xk.r_notF ?_
  | refine Xk.r_seq ?_ | refine Xk.r_next ?_ | refine Xk.r_asg ?_ | refine Xk.r_ret ?_ | refine Xk.r_drop ?_ | refine Xk.r_ifS ?_ | refine Xk.r_par ?_ | refine Xk.r_ex2 ?_ | refine Xk.r_brk ?_ | refine Xk.r_cont ?_ | refine Xk.r_ipI ?_ | refine Xk.r_for ?_
  | refine Xk.r_augS ?_ | refine Xk.r_sadd0 ?_ | refine Xk.r_iEnum ?_ | refine Xk.r_iList ?_ | refine Xk.r_iTup ?_ | refine Xk.r_iRng1 ?_ | refine Xk.r_iRng2 ?_ | refine Xk.r_iRng3 ?_ | refine Xk.r_iZip ?_ | refine Xk.r_lc ?_ | refine Xk.r_lrg ?_ | refine Xk.r_rg1 ?_ | refine Xk.r_rg2 ?_ | refine Xk.r_l3 ?_ | refine Xk.r_revL ?_ | refine Xk.r_exr ?_
  | refine Xk.r_name ?_ | refine Xk.r_gcons ?_ | refine Xk.r_gnil ?_ | refine Xk.r_gsub ?_ | refine Xk.r_gslc ?_)
local macro_rules | `(tactic| fail "ne") => `(tactic| first | assumption | (apply Ne.symm; assumption) | (exact L2.ne_of_none (by assumption) (by assumption)) | (apply Ne.symm; exact L2.ne_of_none (by assumption) (by assumption)))
/-- what stands at an address -/
local macro_rules | `(tactic| fail "hp") => `(tactic| with_reducible first
  | assumption | exact L2.upd_same
  | ((refine' Xk.upd_old ?np ?_); (case np => assumption); fail "hp")
  | ((refine' Xk.same_to ?hs ?_); (case hs => assumption); fail "hp")
  | ((refine' Xk.sx_to ?hs ?hn ?_); (case hs => assumption); (case hn => fail "ne"); fail "hp")
  | ((refine' Xk.upd_to ?hn ?_); (case hn => fail "ne"); fail "hp"))
local macro_rules | `(tactic| fail "sq") => `(tactic| ((with_reducible show L2.SqL _ _ _ _); first | (with_reducible assumption) | exact Xk.sq (by fail "hp") | (with_reducible exact L2.Same.seq (by assumption) (by assumption))))
local macro_rules | `(tactic| fail "sd") => `(tactic| first | assumption | omega | decide)
local macro_rules | `(tactic| fail "at") => `(tactic| first
  | (with_reducible exact Xk.at_0) | (with_reducible exact Xk.at_1) | (with_reducible exact Xk.at_2) | (with_reducible exact Xk.at_3)
  | ((with_reducible show L2.atI (List.set (_ :: _) _ _) _ = _); exact rfl))
local macro_rules | `(tactic| fail "ix") => `(tactic| ((with_reducible show L2.ixN (List.length (_ :: _)) _ = _); exact rfl))
local macro_rules | `(tactic| fail "two") => `(tactic| first
  | ((with_reducible refine' Xk.r_var ?hv ?_); (case hv => exact rfl))
  | ((with_reducible refine' Xk.r_aug ?hv ?_); (case hv => exact rfl))
  | ((with_reducible refine' Xk.r_ixL ?hv ?hw ?_); (case hv => fail "sq"); (case hw => fail "at"))
  | ((with_reducible refine' Xk.r_setL ?hv ?hw ?_); (case hv => fail "hp"); (case hw => fail "ix"))
  | ((with_reducible refine' Xk.r_slL ?hv ?_); (case hv => fail "sq"))
  | ((with_reducible refine' Xk.r_gtup ?hv ?hw ?_); (case hv => exact Xk.sqT (by fail "hp")); (case hw => exact rfl))
  | ((with_reducible refine' ⟨Xk.ty_list (K := _) (xs := _) ?hv, ?_⟩); (case hv => fail "sq"))
  | ((with_reducible refine' Xk.r_append ?hv ?hw ?_); (case hv => fail "hp"); (case hw => fail "sd"))
  | ((with_reducible refine' Xk.r_I (C := fun _ j => 0 < j) ?hv ?_); (case hv => (first | omega | (show (0 : Int) < _; omega) | decide)))
  | ((with_reducible refine' Xk.r_len ?hv ?_); (case hv => fail "sq"))
  | ((with_reducible refine' Xk.r_listOf ?hv ?_); (case hv => fail "sq"))
  | ((with_reducible refine' Xk.r_I (C := Xk.CPowW) ?hv ?_); (case hv => exact ⟨by decide, by decide⟩))
  | (with_reducible refine ⟨Xk.szL (by with_unfolding_all rfl), ?_⟩)
  | ((with_reducible refine' ⟨_, _, rfl, ?hv, ?_⟩); (case hv => ((with_reducible show L2.SqL _ _ _ _); fail "sq")))
  | ((with_reducible refine' ⟨⟨_, ?hv⟩, ?_⟩); (case hv => fail "sq"))
  | (with_reducible refine Or.inl ⟨_, rfl, ?_⟩) | (with_reducible refine Or.inr ⟨_, rfl, ?_⟩)
  | (with_reducible refine ⟨_, _, rfl, rfl, ?_⟩) | (with_reducible refine ⟨_, rfl, ?_⟩) | (with_reducible refine ⟨_, _, rfl, ?_⟩))
local macro_rules | `(tactic| fail "g") => `(tactic| repeat (first | fail "one" | fail "two"))

set_option Elab.async false
set_option linter.all false
set_option maxRecDepth 100000
namespace Xk
open PySem PySem.Spec PyProof.Rows L2
/-! ### slices by numbers -/
theorem cut_from {xs : List V} {z : Int} {a : Nat} (h : z = (a : Int)) : cutV xs (some z) none = xs.drop a := by
  subst h
  unfold cutV
  rw [show HT.sIx xs.length 0 (some (a : Int)) = min a xs.length from HT.sIx_nat xs.length 0 a, HT.sIx_none]
  by_cases q : a ≤ xs.length
  · rw [Nat.min_eq_left q]; exact List.take_of_length_le (by rw [List.length_drop]; omega)
  · rw [Nat.min_eq_right (by omega), List.drop_of_length_le (by omega), List.drop_of_length_le (by omega)]; simp
theorem cut_to {xs : List V} {z : Int} {b : Nat} (h : z = (b : Int)) : cutV xs none (some z) = xs.take b := by
  subst h
  unfold cutV
  rw [show HT.sIx xs.length xs.length (some (b : Int)) = min b xs.length from HT.sIx_nat xs.length xs.length b, HT.sIx_none]
  show (xs.take (min b xs.length - 0)) = _
  rw [Nat.sub_zero]
  by_cases q : b ≤ xs.length
  · rw [Nat.min_eq_left q]
  · rw [Nat.min_eq_right (by omega), List.take_of_length_le (by omega), List.take_of_length_le (by omega)]
theorem cut_mid {xs : List V} {z y : Int} {a b : Nat} (h : z = (a : Int)) (g : y = (b : Int)) (hb : b ≤ xs.length) : cutV xs (some z) (some y) = (xs.drop a).take (b - a) := by
  subst h; subst g
  unfold cutV
  rw [show HT.sIx xs.length 0 (some (a : Int)) = min a xs.length from HT.sIx_nat xs.length 0 a, show HT.sIx xs.length xs.length (some (b : Int)) = min b xs.length from HT.sIx_nat xs.length xs.length b, Nat.min_eq_left hb]
  by_cases q : a ≤ xs.length
  · rw [Nat.min_eq_left q]
  · rw [Nat.min_eq_right (by omega), show b - xs.length = 0 by omega, show b - a = 0 by omega]; rfl
theorem map_drop' {α β : Type} (f : α → β) (l : List α) (n : Nat) : (l.map f).drop n = (l.drop n).map f := by simp
theorem at_map {ns : List Int} {z : Int} {j : Nat} (e : z = (j : Int)) (h : j < ns.length) : atI (ns.map V.int) z = some (.int ns[j]) :=
  at_of e (by simp [h])
theorem ix_of {n j : Nat} {z : Int} (e : z = (j : Int)) (h : j < n) : ixN n z = some j := by
  subst e; unfold ixN; rw [if_pos (by omega), if_pos (by omega)]; simp
theorem map_set' (ns : List Int) (j : Nat) (x : Int) : (ns.map V.int).set j (V.int x) = (ns.set j x).map V.int := by simp
theorem map_snoc (ns : List Int) (x : Int) : ns.map V.int ++ [V.int x] = (ns ++ [x]).map V.int := by simp
theorem size_lt {n : Nat} (h : n < 16777216) : n < sizeLine := h
theorem size_le {n : Nat} (h : n ≤ 16777216) : n ≤ sizeLine := h

/-! ### comprehensions whose turns leave what stood -/
section
variable {J : It} {n : Nat} {G : Hp → Prop} {Y : Nat → Hp → V → Hp → Prop}
theorem forI (w : Walk J n G Y) {g : TG} {tb : TS} {nx : L2.St → Hp → Prop} {rt : VK} {σ : L2.St} {H : Hp} (Pv : Nat → L2.St → Hp → Prop) (h0 : Pv 0 σ H) (hG : ∀ i σ H, i ≤ n → Pv i σ H → G H)
    (hs : ∀ i x σ H H', i < n → Pv i σ H → Y i H x H' → g x σ H' fun σ2 H2 => tb ⟨Pv (i + 1), rt, nx, Pv (i + 1)⟩ σ2 H2) (hd : ∀ σ H, Pv n σ H → nx σ H) :
    ∃ W : Nat → Nat → L2.St → Hp → Prop, (∃ m, W 0 m σ H) ∧ ∀ i m σ H, W i m σ H →
      (J.stop i H ∧ nx σ H) ∨ (J.go i H ∧ ∃ N : L2.St → Hp → Prop, (∀ σ' H', N σ' H' → ∃ m', m' < m ∧ W (i + 1) m' σ' H') ∧ ∀ x H', J.yld i H x H' → g x σ H' fun σ2 H2 => tb ⟨N, rt, nx, N⟩ σ2 H2) :=
  for_it (D := ⟨nx, rt, fun _ _ => False, fun _ _ => False⟩) w Pv h0 hG hs hd
theorem forA {xs : List V} (w : Walk J xs.length G (YAt xs)) {g : TG} {tb : TS} {nx : L2.St → Hp → Prop} {rt : VK} {σ : L2.St} {H : Hp} (Pv : Nat → L2.St → Hp → Prop) (h0 : Pv 0 σ H) (hG : ∀ i σ H, i ≤ xs.length → Pv i σ H → G H)
    (hs : ∀ i σ H (hi : i < xs.length), Pv i σ H → g xs[i] σ H fun σ2 H2 => tb ⟨Pv (i + 1), rt, nx, Pv (i + 1)⟩ σ2 H2) (hd : ∀ σ H, Pv xs.length σ H → nx σ H) :
    ∃ W : Nat → Nat → L2.St → Hp → Prop, (∃ m, W 0 m σ H) ∧ ∀ i m σ H, W i m σ H →
      (J.stop i H ∧ nx σ H) ∨ (J.go i H ∧ ∃ N : L2.St → Hp → Prop, (∀ σ' H', N σ' H' → ∃ m', m' < m ∧ W (i + 1) m' σ' H') ∧ ∀ x H', J.yld i H x H' → g x σ H' fun σ2 H2 => tb ⟨N, rt, nx, N⟩ σ2 H2) :=
  forI w Pv h0 hG (fun i x σ H H' hi p y => by
    obtain ⟨rfl, e⟩ := y
    rw [List.getElem?_eq_getElem hi] at e
    cases e
    exact hs i σ H' hi p) hd
theorem forAI {ns : List Int} (w : Walk J (ns.map V.int).length G (YAt (ns.map V.int))) {g : TG} {tb : TS} {nx : L2.St → Hp → Prop} {rt : VK} {σ : L2.St} {H : Hp} (Pv : Nat → L2.St → Hp → Prop) (h0 : Pv 0 σ H) (hG : ∀ i σ H, i ≤ (ns.map V.int).length → Pv i σ H → G H)
    (hs : ∀ i σ H (hi : i < ns.length), Pv i σ H → g (.int ns[i]) σ H fun σ2 H2 => tb ⟨Pv (i + 1), rt, nx, Pv (i + 1)⟩ σ2 H2) (hd : ∀ σ H, Pv (ns.map V.int).length σ H → nx σ H) :
    ∃ W : Nat → Nat → L2.St → Hp → Prop, (∃ m, W 0 m σ H) ∧ ∀ i m σ H, W i m σ H →
      (J.stop i H ∧ nx σ H) ∨ (J.go i H ∧ ∃ N : L2.St → Hp → Prop, (∀ σ' H', N σ' H' → ∃ m', m' < m ∧ W (i + 1) m' σ' H') ∧ ∀ x H', J.yld i H x H' → g x σ H' fun σ2 H2 => tb ⟨N, rt, nx, N⟩ σ2 H2) :=
  forI w Pv h0 hG (fun i x σ H H' hi p y => by
    obtain ⟨rfl, e⟩ := y
    have hi' : i < ns.length := by simpa using hi
    rw [List.getElem?_map, List.getElem?_eq_getElem hi'] at e
    cases e
    exact hs i σ H' hi' p) hd
theorem forF {f : Nat → V} (w : Walk J n G (YFn f)) {g : TG} {tb : TS} {nx : L2.St → Hp → Prop} {rt : VK} {σ : L2.St} {H : Hp} (Pv : Nat → L2.St → Hp → Prop) (h0 : Pv 0 σ H) (hG : ∀ i σ H, i ≤ n → Pv i σ H → G H)
    (hs : ∀ i σ H, i < n → Pv i σ H → g (f i) σ H fun σ2 H2 => tb ⟨Pv (i + 1), rt, nx, Pv (i + 1)⟩ σ2 H2) (hd : ∀ σ H, Pv n σ H → nx σ H) :
    ∃ W : Nat → Nat → L2.St → Hp → Prop, (∃ m, W 0 m σ H) ∧ ∀ i m σ H, W i m σ H →
      (J.stop i H ∧ nx σ H) ∨ (J.go i H ∧ ∃ N : L2.St → Hp → Prop, (∀ σ' H', N σ' H' → ∃ m', m' < m ∧ W (i + 1) m' σ' H') ∧ ∀ x H', J.yld i H x H' → g x σ H' fun σ2 H2 => tb ⟨N, rt, nx, N⟩ σ2 H2) :=
  forI w Pv h0 hG (fun i x σ H H' hi p y => by
    obtain ⟨rfl, rfl⟩ := y
    exact hs i σ H' hi p) hd
theorem forP {f1 f2 : Nat → Option V} (w : Walk J n G (YPair f1 f2)) {g : TG} {tb : TS} {nx : L2.St → Hp → Prop} {rt : VK} {σ : L2.St} {H : Hp} (Pv : Nat → L2.St → Hp → Prop) (h0 : Pv 0 σ H) (hG : ∀ i σ H, i ≤ n → Pv i σ H → G H)
    (hs : ∀ i σ H T x y, i < n → Pv i σ H → f1 i = some x → f2 i = some y → H T = none → g (.ref T) σ (upd H T (.tup [x, y])) fun σ2 H2 => tb ⟨Pv (i + 1), rt, nx, Pv (i + 1)⟩ σ2 H2) (hd : ∀ σ H, Pv n σ H → nx σ H) :
    ∃ W : Nat → Nat → L2.St → Hp → Prop, (∃ m, W 0 m σ H) ∧ ∀ i m σ H, W i m σ H →
      (J.stop i H ∧ nx σ H) ∨ (J.go i H ∧ ∃ N : L2.St → Hp → Prop, (∀ σ' H', N σ' H' → ∃ m', m' < m ∧ W (i + 1) m' σ' H') ∧ ∀ x H', J.yld i H x H' → g x σ H' fun σ2 H2 => tb ⟨N, rt, nx, N⟩ σ2 H2) :=
  forI w Pv h0 hG (fun i x σ H H' hi p y => by
    obtain ⟨T, x, y, rfl, nT, rfl, e1, e2⟩ := y
    exact hs i σ H T x y hi p e1 e2 nT) hd
theorem forEI {ns : List Int} (w : Walk J (ns.map V.int).length G (YPair (fun i => some (.int (i : Nat))) (fun i => (ns.map V.int)[i]?))) {g : TG} {tb : TS} {nx : L2.St → Hp → Prop} {rt : VK} {σ : L2.St} {H : Hp} (Pv : Nat → L2.St → Hp → Prop) (h0 : Pv 0 σ H) (hG : ∀ i σ H, i ≤ (ns.map V.int).length → Pv i σ H → G H)
    (hs : ∀ i σ H T (hi : i < ns.length), Pv i σ H → H T = none → g (.ref T) σ (upd H T (.tup [.int (i : Nat), .int ns[i]])) fun σ2 H2 => tb ⟨Pv (i + 1), rt, nx, Pv (i + 1)⟩ σ2 H2) (hd : ∀ σ H, Pv (ns.map V.int).length σ H → nx σ H) :
    ∃ W : Nat → Nat → L2.St → Hp → Prop, (∃ m, W 0 m σ H) ∧ ∀ i m σ H, W i m σ H →
      (J.stop i H ∧ nx σ H) ∨ (J.go i H ∧ ∃ N : L2.St → Hp → Prop, (∀ σ' H', N σ' H' → ∃ m', m' < m ∧ W (i + 1) m' σ' H') ∧ ∀ x H', J.yld i H x H' → g x σ H' fun σ2 H2 => tb ⟨N, rt, nx, N⟩ σ2 H2) :=
  forI w Pv h0 hG (fun i x σ H H' hi p y => by
    obtain ⟨T, x, y, rfl, nT, rfl, e1, e2⟩ := y
    have hi' : i < ns.length := by simpa using hi
    cases e1
    simp only [List.getElem?_map, List.getElem?_eq_getElem hi'] at e2
    cases e2
    exact hs i σ H T hi' p nT) hd
theorem lc_same (w : Walk J n G Y) {g : TG} {tt : TT} {te : TE} {vs : List Nat} {σ : L2.St} {H0 H1 : Hp} {D : Addr} {Qd : Hp → Prop} (acc : Nat → List V) (hD : H1 D = none) (h01 : Same H0 H1) (a0 : acc 0 = [])
    (hG : ∀ H, Same H0 H → G H)
    (hs : ∀ i x H H', i < n → Same H0 H ∧ H D = some (.lst (acc i)) → Y i H x H' → g x (wipe σ vs) H' fun σ2 H2 => wipe σ2 vs = wipe σ vs ∧ tt σ2 H2 fun b H3 =>
      if b = true then te σ2 H3 fun y H4 => ∃ l, H4 D = some (.lst l) ∧ l.length < sizeLine ∧ Same H0 (upd H4 D (.lst (l ++ [y]))) ∧ (upd H4 D (.lst (l ++ [y]))) D = some (.lst (acc (i + 1))) else Same H0 H3 ∧ H3 D = some (.lst (acc (i + 1))))
    (hd : ∀ H, Same H0 H → H D = some (.lst (acc n)) → Qd H) :
    ∃ W : Nat → Nat → Hp → Prop, (∃ m, W 0 m (upd H1 D (.lst []))) ∧ ∀ i m H, W i m H →
      (J.stop i H ∧ Qd H) ∨ (J.go i H ∧ ∃ Nx : Hp → Prop, (∀ H', Nx H' → ∃ m', m' < m ∧ W (i + 1) m' H') ∧ ∀ x H', J.yld i H x H' → g x (wipe σ vs) H' fun σ2 H2 => wipe σ2 vs = wipe σ vs ∧ tt σ2 H2 fun b H3 =>
        if b = true then te σ2 H3 fun y H4 => ∃ acc, H4 D = some (.lst acc) ∧ acc.length < sizeLine ∧ Nx (upd H4 D (.lst (acc ++ [y]))) else Nx H3) :=
  lc_it w (fun i H => Same H0 H ∧ H D = some (.lst (acc i))) ⟨same_old h01 (h01.free hD), by rw [a0]; exact upd_same⟩ (fun i H _ p => hG H p.1) hs (fun H p => hd H p.1 p.2)
theorem lc_sameAI {ns : List Int} (w : Walk J (ns.map V.int).length G (YAt (ns.map V.int))) {g : TG} {tt : TT} {te : TE} {vs : List Nat} {σ : L2.St} {H0 H1 : Hp} {D : Addr} {Qd : Hp → Prop} (acc : Nat → List V) (hD : H1 D = none) (h01 : Same H0 H1) (a0 : acc 0 = [])
    (hG : ∀ H, Same H0 H → G H)
    (hs : ∀ i H (hi : i < ns.length), Same H0 H ∧ H D = some (.lst (acc i)) → g (.int ns[i]) (wipe σ vs) H fun σ2 H2 => wipe σ2 vs = wipe σ vs ∧ tt σ2 H2 fun b H3 =>
      if b = true then te σ2 H3 fun y H4 => ∃ l, H4 D = some (.lst l) ∧ l.length < sizeLine ∧ Same H0 (upd H4 D (.lst (l ++ [y]))) ∧ (upd H4 D (.lst (l ++ [y]))) D = some (.lst (acc (i + 1))) else Same H0 H3 ∧ H3 D = some (.lst (acc (i + 1))))
    (hd : ∀ H, Same H0 H → H D = some (.lst (acc ns.length)) → Qd H) :
    ∃ W : Nat → Nat → Hp → Prop, (∃ m, W 0 m (upd H1 D (.lst []))) ∧ ∀ i m H, W i m H →
      (J.stop i H ∧ Qd H) ∨ (J.go i H ∧ ∃ Nx : Hp → Prop, (∀ H', Nx H' → ∃ m', m' < m ∧ W (i + 1) m' H') ∧ ∀ x H', J.yld i H x H' → g x (wipe σ vs) H' fun σ2 H2 => wipe σ2 vs = wipe σ vs ∧ tt σ2 H2 fun b H3 =>
        if b = true then te σ2 H3 fun y H4 => ∃ acc, H4 D = some (.lst acc) ∧ acc.length < sizeLine ∧ Nx (upd H4 D (.lst (acc ++ [y]))) else Nx H3) :=
  lc_same w acc hD h01 a0 hG (fun i x H H' hi p y => by
    obtain ⟨rfl, e⟩ := y
    have hi' : i < ns.length := by simpa using hi
    rw [List.getElem?_map, List.getElem?_eq_getElem hi'] at e
    cases e
    exact hs i H' hi' p) (fun H p q => hd H p (by simpa using q))
theorem lc_sameEI {ns : List Int} (w : Walk J (ns.map V.int).length G (YPair (fun i => some (.int (i : Nat))) (fun i => (ns.map V.int)[i]?))) {g : TG} {tt : TT} {te : TE} {vs : List Nat} {σ : L2.St} {H0 H1 : Hp} {D : Addr} {Qd : Hp → Prop} (acc : Nat → List V) (hD : H1 D = none) (h01 : Same H0 H1) (a0 : acc 0 = [])
    (hG : ∀ H, Same H0 H → G H)
    (hs : ∀ i H T (hi : i < ns.length), Same H0 H ∧ H D = some (.lst (acc i)) → H T = none → g (.ref T) (wipe σ vs) (upd H T (.tup [.int (i : Nat), .int ns[i]])) fun σ2 H2 => wipe σ2 vs = wipe σ vs ∧ tt σ2 H2 fun b H3 =>
      if b = true then te σ2 H3 fun y H4 => ∃ l, H4 D = some (.lst l) ∧ l.length < sizeLine ∧ Same H0 (upd H4 D (.lst (l ++ [y]))) ∧ (upd H4 D (.lst (l ++ [y]))) D = some (.lst (acc (i + 1))) else Same H0 H3 ∧ H3 D = some (.lst (acc (i + 1))))
    (hd : ∀ H, Same H0 H → H D = some (.lst (acc ns.length)) → Qd H) :
    ∃ W : Nat → Nat → Hp → Prop, (∃ m, W 0 m (upd H1 D (.lst []))) ∧ ∀ i m H, W i m H →
      (J.stop i H ∧ Qd H) ∨ (J.go i H ∧ ∃ Nx : Hp → Prop, (∀ H', Nx H' → ∃ m', m' < m ∧ W (i + 1) m' H') ∧ ∀ x H', J.yld i H x H' → g x (wipe σ vs) H' fun σ2 H2 => wipe σ2 vs = wipe σ vs ∧ tt σ2 H2 fun b H3 =>
        if b = true then te σ2 H3 fun y H4 => ∃ acc, H4 D = some (.lst acc) ∧ acc.length < sizeLine ∧ Nx (upd H4 D (.lst (acc ++ [y]))) else Nx H3) :=
  lc_same w acc hD h01 a0 hG (fun i x H H' hi p y => by
    obtain ⟨T, x, y, rfl, nT, rfl, e1, e2⟩ := y
    have hi' : i < ns.length := by simpa using hi
    cases e1
    simp only [List.getElem?_map, List.getElem?_eq_getElem hi'] at e2
    cases e2
    exact hs i H T hi' p nT) (fun H p q => hd H p (by simpa using q))
theorem lc_sameF {n : Nat} {f : Nat → V} (w : Walk J n G (YFn f)) {g : TG} {tt : TT} {te : TE} {vs : List Nat} {σ : L2.St} {H0 H1 : Hp} {D : Addr} {Qd : Hp → Prop} (acc : Nat → List V) (hD : H1 D = none) (h01 : Same H0 H1) (a0 : acc 0 = [])
    (hG : ∀ H, Same H0 H → G H)
    (hs : ∀ i H, i < n → Same H0 H ∧ H D = some (.lst (acc i)) → g (f i) (wipe σ vs) H fun σ2 H2 => wipe σ2 vs = wipe σ vs ∧ tt σ2 H2 fun b H3 =>
      if b = true then te σ2 H3 fun y H4 => ∃ l, H4 D = some (.lst l) ∧ l.length < sizeLine ∧ Same H0 (upd H4 D (.lst (l ++ [y]))) ∧ (upd H4 D (.lst (l ++ [y]))) D = some (.lst (acc (i + 1))) else Same H0 H3 ∧ H3 D = some (.lst (acc (i + 1))))
    (hd : ∀ H, Same H0 H → H D = some (.lst (acc n)) → Qd H) :
    ∃ W : Nat → Nat → Hp → Prop, (∃ m, W 0 m (upd H1 D (.lst []))) ∧ ∀ i m H, W i m H →
      (J.stop i H ∧ Qd H) ∨ (J.go i H ∧ ∃ Nx : Hp → Prop, (∀ H', Nx H' → ∃ m', m' < m ∧ W (i + 1) m' H') ∧ ∀ x H', J.yld i H x H' → g x (wipe σ vs) H' fun σ2 H2 => wipe σ2 vs = wipe σ vs ∧ tt σ2 H2 fun b H3 =>
        if b = true then te σ2 H3 fun y H4 => ∃ acc, H4 D = some (.lst acc) ∧ acc.length < sizeLine ∧ Nx (upd H4 D (.lst (acc ++ [y]))) else Nx H3) :=
  lc_same w acc hD h01 a0 hG (fun i x H H' hi p y => by
    obtain ⟨rfl, rfl⟩ := y
    exact hs i H' hi p) hd
theorem lc_add {H0 H H4 : Hp} {D : Addr} {a a' : List V} {y : V} (p : Same H0 H ∧ H D = some (.lst a)) (s : Same H H4) (hD : H0 D = none) (e : a' = a ++ [y]) (hz : a.length < sizeLine) :
    ∃ l, H4 D = some (.lst l) ∧ l.length < sizeLine ∧ Same H0 (upd H4 D (.lst (l ++ [y]))) ∧ (upd H4 D (.lst (l ++ [y]))) D = some (.lst a') :=
  ⟨a, s _ _ p.2, hz, same_old (p.1.trans s) hD, by rw [e]; exact upd_same⟩
theorem lc_skip {H0 H H4 : Hp} {D : Addr} {a a' : List V} (p : Same H0 H ∧ H D = some (.lst a)) (s : Same H H4) (e : a' = a) : Same H0 H4 ∧ H4 D = some (.lst a') := ⟨p.1.trans s, by rw [e]; exact s _ _ p.2⟩
theorem take_one {α : Type} {l : List α} {i : Nat} (hi : i < l.length) : l.take (i + 1) = l.take i ++ [l[i]] := by rw [List.take_add_one, List.getElem?_eq_getElem hi]; rfl
theorem acc_filtT {l : List Int} {f : Int → Bool} {i : Nat} (hi : i < l.length) (h : f l[i] = true) : ((l.take (i + 1)).filter f).map V.int = ((l.take i).filter f).map V.int ++ [.int l[i]] := by
  rw [take_one hi, List.filter_append, List.map_append]; simp [h]
theorem acc_filtF {l : List Int} {f : Int → Bool} {i : Nat} (hi : i < l.length) (h : f l[i] = false) : ((l.take (i + 1)).filter f).map V.int = ((l.take i).filter f).map V.int := by
  rw [take_one hi, List.filter_append, List.map_append]; simp [h]
theorem filt_len {l : List Int} {f : Int → Bool} {i : Nat} (h : l.length ≤ 1000000) : (((l.take i).filter f).map V.int).length < sizeLine := by
  rw [List.length_map]
  refine Nat.lt_of_le_of_lt (Nat.le_trans (List.length_filter_le _ _) (List.length_take_le' _ _)) (size_lt (by omega))
end
theorem erase_map {α β : Type} (f : α → β) : ∀ (l : List α) (j : Nat), (l.map f).eraseIdx j = (l.eraseIdx j).map f
  | [], _ => rfl
  | x :: r, 0 => rfl
  | x :: r, j + 1 => congrArg (f x :: ·) (erase_map f r j)
theorem erase_perm {α : Type} : ∀ (l : List α) (j : Nat) (h : j < l.length), (l[j] :: l.eraseIdx j).Perm l
  | x :: r, 0, _ => List.Perm.refl _
  | x :: r, j + 1, h => (List.Perm.swap x (r[j]'(Nat.lt_of_succ_lt_succ h)) (r.eraseIdx j)).trans ((erase_perm r j (Nat.lt_of_succ_lt_succ h)).cons x)
end Xk

set_option Elab.async false
set_option linter.all false
set_option maxRecDepth 100000
namespace Xk
open PySem PySem.Spec PyProof.Rows L2
/-! ### data -/
abbrev dI (ns : List Int) : PyData := .list (ns.map PyData.int)
section
variable {K : PySem.W.Frag} {H H' : Hp}
theorem dp_ints : ∀ ns : List Int, DpAll K H (ns.map V.int) (ns.map PyData.int)
  | [] => .nil
  | i :: r => .cons (.int i) (dp_ints r)
theorem dp_lst {a : Addr} {ns : List Int} (h : SqL K H a (ns.map V.int)) : Dp K H (.ref a) (dI ns) := .lst h (dp_ints ns)
theorem eqv_ints : ∀ ns ms : List Int, PyData.eqvAll (ns.map PyData.int) (ms.map PyData.int) = decide (ns = ms)
  | [], [] => rfl
  | [], _ :: _ => rfl
  | _ :: _, [] => rfl
  | i :: r, j :: t => by
    show ((i == j) && PyData.eqvAll (r.map PyData.int) (t.map PyData.int)) = _
    rw [eqv_ints r t]
    by_cases e : i = j
    · subst e; by_cases f : r = t
      · subst f; simp
      · simp [f]
    · simp [e]
theorem eqv_dI (ns ms : List Int) : PyData.eqv (dI ns) (dI ms) = decide (ns = ms) := eqv_ints ns ms
theorem lay_ints : ∀ ns : List Int, PyData.canLayAll0 (ns.map PyData.int) = true
  | [] => rfl
  | _ :: r => lay_ints r
theorem depth_ints : ∀ ns : List Int, PyData.depthAll (ns.map PyData.int) = 0
  | [] => rfl
  | i :: r => by show max 0 (PyData.depthAll (r.map PyData.int)) = 0; rw [depth_ints r]; rfl
theorem shaped_dI (ns : List Int) : SeqAt.shaped (dI ns) = true := by
  unfold SeqAt.shaped
  rw [Bool.and_eq_true]
  refine ⟨lay_ints ns, ?_⟩
  show decide (PyData.depthAll (ns.map PyData.int) + 1 ≤ 64) = true
  rw [depth_ints]; rfl
/-- == of two lists of ints -/
theorem r_eqL {a b : Addr} {ns ms : List Int} {Q : VK} (h : SqL K H a (ns.map V.int)) (g : SqL K H b (ms.map V.int)) (q : Q (.bl (decide (ns = ms))) H) : rEqD K (.ref a) (.ref b) H Q :=
  ⟨_, _, dp_lst h, dp_lst g, shaped_dI ns, shaped_dI ms, by rw [eqv_dI]; exact q⟩
theorem r_neL {a b : Addr} {ns ms : List Int} {Q : VK} (h : SqL K H a (ns.map V.int)) (g : SqL K H b (ms.map V.int)) (q : Q (.bl (!decide (ns = ms))) H) : rNeD K (.ref a) (.ref b) H Q :=
  ⟨_, _, dp_lst h, dp_lst g, shaped_dI ns, shaped_dI ms, by rw [eqv_dI]; exact q⟩
end

/-! ### how long a repr may be -/
def Sh (b : Nat) (d : PyData) : Prop := d.showable = true ∧ d.shown.length ≤ b
theorem Sh.mono {b c : Nat} {d : PyData} (h : Sh b d) (e : b ≤ c) : Sh c d := ⟨h.1, Nat.le_trans h.2 e⟩
theorem len_app (a b : Str) : (a ++ b).length = a.length + b.length := by
  show (a.cps ++ b.cps).size = _
  exact Array.size_append
theorem from_le : ∀ (ts : List Str) (k b : Nat) (acc : Str), (∀ t ∈ ts, t.length ≤ b) → (textFrom k acc ts).length ≤ acc.length + ts.length * (b + 2)
  | [], _, _, _, _ => by simp [textFrom]
  | t :: r, k, b, acc, h => by
    have ht := h t List.mem_cons_self
    have ih := fun acc' => from_le r (k + 1) b acc' fun t ht => h t (List.mem_cons_of_mem _ ht)
    unfold textFrom
    refine Nat.le_trans (ih _) ?_
    rw [List.length_cons, Nat.succ_mul]
    have e2 : (Str.ofString ", ").length = 2 := rfl
    have e0 : (Str.ofString "").length = 0 := rfl
    generalize r.length * (b + 2) = R
    split <;> simp only [len_app] <;> omega
theorem all_sh {b : Nat} : ∀ {ds : List PyData}, (∀ d ∈ ds, Sh b d) → PyData.showableAll ds = true ∧ ∀ t ∈ PyData.shownAll ds, t.length ≤ b
  | [], _ => ⟨rfl, fun t h => nomatch h⟩
  | d :: r, h => by
    have h1 := h d List.mem_cons_self
    have ih := all_sh fun e he => h e (List.mem_cons_of_mem _ he)
    refine ⟨?_, fun t ht => ?_⟩
    · show (d.showable && PyData.showableAll r) = true
      rw [h1.1, ih.1]; rfl
    · rcases List.mem_cons.mp (show t ∈ d.shown :: PyData.shownAll r from ht) with e | e
      · subst e; exact h1.2
      · exact ih.2 t e
theorem shown_len : ∀ ds : List PyData, (PyData.shownAll ds).length = ds.length
  | [] => rfl
  | _ :: r => congrArg (· + 1) (shown_len r)
theorem Sh.list {b : Nat} {ds : List PyData} (h : ∀ d ∈ ds, Sh b d) : Sh (ds.length * (b + 2) + 2) (.list ds) := by
  obtain ⟨h1, h2⟩ := all_sh h
  refine ⟨h1, ?_⟩
  show (listText (PyData.shownAll ds)).length ≤ _
  unfold listText
  rw [len_app]
  have := from_le (PyData.shownAll ds) 0 b "[" h2
  rw [shown_len] at this
  have e1 : ("[" : Str).length = 1 := rfl
  have e2 : ("]" : Str).length = 1 := rfl
  omega
theorem piled_le : ∀ (ts : List Str) (b : Nat), (∀ t ∈ ts, t.length ≤ b) → piled ts ≤ ts.length * (b + 2)
  | [], _, _ => by simp [piled]
  | t :: r, b, h => by
    have h1 := h t List.mem_cons_self
    have ih := piled_le r b fun e he => h e (List.mem_cons_of_mem _ he)
    have e : piled (t :: r) = t.length + 2 + piled r := by simp [piled]
    rw [e, List.length_cons, Nat.succ_mul]
    omega
theorem Sh.tuple {b : Nat} {ds : List PyData} (h : ∀ d ∈ ds, Sh b d) : Sh (ds.length * (b + 2) + 3) (.tuple ds) := by
  obtain ⟨h1, h2⟩ := all_sh h
  refine ⟨h1, ?_⟩
  show (tupleText (PyData.shownAll ds)).length ≤ _
  unfold tupleText
  rw [len_app, len_app]
  have hp := piled_le (PyData.shownAll ds) b h2
  rw [shown_len] at hp
  have e1 : ("(" : Str).length = 1 := rfl
  have e2 : (Str.ofString ",)").length = 2 := rfl
  have e3 : (Str.ofString ")").length = 1 := rfl
  by_cases q : PyData.shownAll ds = []
  · rw [q]
    have e4 : (Str.join ", " []).length = 0 := rfl
    split <;> omega
  · have := join_length_add _ q
    split <;> omega
theorem Sh.bool {b : Bool} : Sh 5 (.bool b) := ⟨rfl, by cases b <;> decide⟩
theorem Sh.none : Sh 4 .none := ⟨rfl, by decide⟩
theorem Sh.int {i : Int} {k : Nat} (hk : 0 < k) (h : i.natAbs < 10 ^ k) (h9 : k ≤ 500) : Sh (k + 1) (.int i) := by
  refine ⟨?_, ?_⟩
  · show decide (i.natAbs.log2 < 1920) = true
    rw [decide_eq_true_eq]
    by_cases z : i.natAbs = 0
    · rw [z]; decide
    · refine (Nat.log2_lt z).mpr (Nat.lt_trans h (Nat.lt_of_le_of_lt (Nat.pow_le_pow_right (by decide) h9) (by decide +kernel)))
  · show (Str.ofString (toString i)).length ≤ k + 1
    match i, h with
    | .ofNat n, h => exact Nat.le_succ_of_le (PyProof.Rows.toString_length_le (v := (n : Int)) (by omega) hk (by
        have h' : n < 10 ^ k := h
        have : ((n : Nat) : Int) < ((10 ^ k : Nat) : Int) := by omega
        simpa using this))
    | .negSucc n, h =>
      have h' : n + 1 < 10 ^ k := h
      have := PyProof.Rows.toString_length_le (v := ((n + 1 : Nat) : Int)) (by omega) hk (by
        have : ((n + 1 : Nat) : Int) < ((10 ^ k : Nat) : Int) := by omega
        simpa using this)
      rw [PyProof.Rows.ofString_length, String.length_toList] at this
      rw [PyProof.Rows.ofString_length, String.length_toList]
      show ("-" ++ toString (n + 1)).length ≤ k + 1
      rw [String.length_append]
      have e : ("-" : String).length = 1 := rfl
      have e2 : (toString ((n + 1 : Nat) : Int)) = toString (n + 1) := rfl
      rw [e2] at this
      omega
theorem Sh.ints {ns : List Int} {k : Nat} (hk : 0 < k) (h9 : k ≤ 500) (h : ∀ i ∈ ns, i.natAbs < 10 ^ k) : Sh (ns.length * (k + 3) + 2) (dI ns) := by
  have := Sh.list (b := k + 1) (ds := ns.map PyData.int) fun d hd => by
    obtain ⟨i, hi, rfl⟩ := List.mem_map.mp hd
    exact Sh.int hk (h i hi) h9
  rw [List.length_map] at this
  exact this
/-- repr(a list), in a reading -/
theorem r_repr {K : PySem.W.Frag} {H : Hp} {a : Addr} {d : PyData} {Q : VK} (h : Dp K H (.ref a) d) (hd : d.depth ≤ 60) {b : Nat} (s : Sh b d) (hb : b ≤ 16777216) (q : Q (.str d.shown) H) : rReprD K [.ref a] H Q :=
  ⟨a, d, rfl, h, s.1, hd, Nat.le_trans s.2 hb, q⟩
theorem depth_dI (ns : List Int) : (dI ns).depth ≤ 60 := by show PyData.depthAll (ns.map PyData.int) + 1 ≤ 60; rw [depth_ints]; decide
end Xk

set_option Elab.async false
set_option linter.all false
set_option maxRecDepth 100000
namespace Xk
open PySem PySem.Spec PyProof.Rows L2
/-! ### isinstance, is None, truth values compared -/
section
variable {X : Cx} (K : PySem.W.Frag)
theorem ix_seqK (hK : X.K = K := by rfl) : IxR X (rIx K) := hK ▸ ix_seq
theorem pg_unlK {es : List Expr} {g : TGs} {k : Nat} {pos : Pos} (n : Nat) (hc : X.calm = true) (h : PGs X es g) (hn : (assignEach es X.env).length = n := by rfl) (hst : (assignEach es X.env).findIdx? (·.1) = none := by rfl) (hK : X.K = K := by rfl) : PG X (.Tuple es k pos) (gUnl K n g) := hK ▸ pg_unl hc h hn hst
/-- x in xs, data of few layers -/
def rInE (K : PySem.W.Frag) : R2 := fun x y H Q => ∃ d ds, Dp K H x d ∧ Dp K H y (.list ds) ∧ SeqAt.shaped d = true ∧ SeqAt.shaped (.list ds) = true ∧ d.depth ≤ 60 ∧ Q (.bl (ds.any fun z => PyData.eqv z d)) H
theorem op_inE (hu : X.A.units + 64 < cLine) (hK : X.K = K := by rfl) : OpR X (compareOp .In) (rInE K) := by
  subst hK
  intro pins s σ H x y v u Q I rx ry h
  obtain ⟨d, ds, hd, he, sd, se, dd, q⟩ := h
  obtain ⟨as, r1⟩ := Dp.reads I d x v hd rx
  obtain ⟨bs, r2⟩ := Dp.reads I (.list ds) y u he ry
  refine SeqAt.in_list_reads r2 r1 (SeqAt.canLay_of_shaped se) (SeqAt.canLay_of_shaped sd) ?_ ⟨.bl _, H, I, rfl, q⟩
  have := Nat.min_le_right (PyData.depthAll ds) d.depth
  omega
theorem isiK (hK : X.K = K := by rfl) : CallR X (.builtin "isinstance") (rIsi K) := hK ▸ call_isi
end
section
variable {K : PySem.W.Frag} {H H' : Hp} {Q : VK} {x : V} {T t : String} {r : Bool}
theorem r_isi (ty : TyX K H x (.type t)) (e : kitB t T = some r) (q : Q (.bl r) H) : rIsi K [x, .ty T] H Q := ⟨x, .ty T, .type t, .type T, r, rfl, .ty T, ty, kit_ty e, q⟩
theorem tyx_list {a : Addr} {xs : List V} (h : SqL K H a xs) : TyX K H (.ref a) (.type "list") := by
  rcases h with (h | ⟨o, h⟩) | ⟨o, its, n, h, c, _⟩
  · exact .base (.lst h)
  · exact .base (.frz h)
  · exact .kList h c
theorem tyx_tup {a : Addr} {xs : List V} (h : SqT K H a xs) : TyX K H (.ref a) (.type "tuple") := by
  rcases h with (h | ⟨o, h⟩) | ⟨o, its, n, h, c, _⟩
  · exact .base (.tup h)
  · exact .fTuple h
  · exact .kTuple h c
theorem r_isN {A : Prop} (q : A) : V.non = V.non ∧ A := ⟨rfl, q⟩
theorem r_neB {a b : Bool} (q : Q (.bl (!decide (a = b))) H) : rNe (.bl a) (.bl b) H Q := by
  refine ⟨rfl, ?_⟩
  have e : decide (V.bl a = V.bl b) = decide (a = b) := by
    by_cases h : a = b
    · subst h; simp
    · rw [decide_eq_false h, decide_eq_false]; intro z; cases z; exact h rfl
  rw [e]; exact q
theorem r_eqB {a b : Bool} (q : Q (.bl (decide (a = b))) H) : rEq (.bl a) (.bl b) H Q := by
  refine ⟨rfl, ?_⟩
  have e : decide (V.bl a = V.bl b) = decide (a = b) := by
    by_cases h : a = b
    · subst h; simp
    · rw [decide_eq_false h, decide_eq_false]; intro z; cases z; exact h rfl
  rw [e]; exact q
theorem r_iRev {tA : TA} {σ : L2.St} {R : L2.It → Hp → Prop} (h : tA σ H fun vs H1 => ∃ a xs, vs = [.ref a] ∧ SqL K H1 a xs ∧ R (Itv K a xs.length) H1) : iRev K tA σ H R := h
theorem r_insert {l : Addr} {xs : List V} {i : Int} {y : V} (h : H l = some (.lst xs)) (hz : xs.length < sizeLine) (h0 : 0 ≤ i) (h1 : i < 2 ^ 63) (q : Q .non (upd H l (.lst (xs.take i.toNat ++ [y] ++ xs.drop i.toNat)))) :
    ∃ (l' : Addr) (xs : List V) (i' : Int) (y' : V), V.ref l = .ref l' ∧ [V.int i, y] = [.int i', y'] ∧ H l' = some (.lst xs) ∧ xs.length < sizeLine ∧ 0 ≤ i' ∧ i' < 2 ^ 63 ∧ Q .non (upd H l' (.lst (xs.take i'.toNat ++ [y'] ++ xs.drop i'.toNat))) := ⟨l, xs, i, y, rfl, rfl, h, hz, h0, h1, q⟩
theorem r_all {a : Addr} {bs : List Bool} (h : SqL K H a (bs.map V.bl)) (q : Q (.bl (bs.all id)) H) : rAll K [.ref a] H Q := ⟨a, bs, rfl, h, q⟩
theorem inv_ints (x : Int) (l : List Int) : inV (.int x) (l.map V.int) = decide (x ∈ l) := by
  unfold inV
  rw [List.any_map]
  by_cases hm : x ∈ l
  · rw [decide_eq_true hm, List.any_eq_true]
    exact ⟨_, hm, by show (_ == _) = true; simp⟩
  · rw [decide_eq_false hm, List.any_eq_false]
    intro y hy
    show ¬ (y == x) = true
    intro e
    exact hm (eq_of_beq e ▸ hy)
theorem r_gunl {gs : TGs} {σ : L2.St} {Qs : L2.St → Hp → Prop} {p : Addr} {xs : List V} {n : Nat} (h : SqL K H p xs) (hl : xs.length = n) (q : gs xs σ H Qs) : gUnl K n gs (.ref p) σ H Qs := ⟨p, xs, rfl, h, hl, q⟩
theorem r_lenT {p : Addr} {xs : List V} (h : SqT K H p xs) (q : Q (.int xs.length) H) : Xk.rLen K [.ref p] H Q := ⟨p, xs, rfl, .inr h, q⟩
theorem pow5 {i : Int} {n : Nat} {j : Int} (h : i.natAbs < 2 ^ n) (h0 : 0 ≤ j) (hj : j ≤ 5) (hn : n ≤ 20000000) : CPowW i j := by
  refine ⟨h0, ?_⟩
  have h1 := bits_le h
  have : (Builtin.Int.intBits i : Int) * j ≤ 20000000 * 5 := by
    refine Int.mul_le_mul ?_ hj h0 (by omega)
    omega
  refine Int.le_trans this (by decide)
theorem r_par3 {tA : TA} {σ : L2.St} {nx bk ct : L2.St → Hp → Prop} {rt : VK} {i j l : Nat} (h : tA σ H fun vs H1 => ∃ x y z, vs = [x, y, z] ∧ nx (((σ.set i (some x)).set j (some y)).set l (some z)) H1) : tPar3 i j l tA ⟨nx, rt, bk, ct⟩ σ H := h
theorem r_ex3 {f : V → V → V → Prop} {x y z : V} (h : f x y z) : ∃ u v w, [x, y, z] = [u, v, w] ∧ f u v w := ⟨x, y, z, rfl, h⟩
theorem r_ixQL {p : Addr} {xs : List V} {i : Int} {v : V} (h : SqL K H p xs) (ha : atI xs i = some v) (q : Q v H) : rIx K (.ref p) (.int i) H Q := .inl ⟨p, xs, i, v, rfl, rfl, h, ha, q⟩
theorem r_ixQT {p : Addr} {xs : List V} {i : Int} {v : V} (h : SqT K H p xs) (ha : atI xs i = some v) (q : Q v H) : rIx K (.ref p) (.int i) H Q := .inr (.inl ⟨p, xs, i, v, rfl, rfl, h, ha, q⟩)
theorem r_reverse {p : Addr} {xs : List V} (h : H p = some (.lst xs)) (q : Q .non (upd H p (.lst xs.reverse))) : rReverse (.ref p) [] H Q := ⟨p, xs, rfl, rfl, h, q⟩
theorem r_extend {p b : Addr} {xs zs : List V} (h : H p = some (.lst xs)) (g : H b = some (.lst zs)) (hz : xs.length + zs.length ≤ sizeLine) (q : Q .non (upd H p (.lst (xs ++ zs)))) : rExtend (.ref p) [.ref b] H Q := ⟨p, b, xs, zs, rfl, rfl, h, g, hz, q⟩
theorem r_cat {p b : Addr} {xs ys : List V} (h : H p = some (.lst xs)) (g : H b = some (.lst ys)) (hz : xs.length + ys.length ≤ sizeLine) (q : ∀ n, H n = none → Q (.ref n) (upd H n (.lst (xs ++ ys)))) : rCat (.ref p) (.ref b) H Q := ⟨p, b, xs, ys, rfl, rfl, h, g, hz, q⟩
theorem cut_any {xs : List V} {z y : Int} {a b : Nat} (h : z = (a : Int)) (g : y = (b : Int)) : cutV xs (some z) (some y) = (xs.drop a).take (b - a) := by
  subst h; subst g
  unfold cutV
  rw [show HT.sIx xs.length 0 (some (a : Int)) = min a xs.length from HT.sIx_nat xs.length 0 a, show HT.sIx xs.length xs.length (some (b : Int)) = min b xs.length from HT.sIx_nat xs.length xs.length b]
  by_cases q : a ≤ xs.length
  · rw [Nat.min_eq_left q]
    by_cases q2 : b ≤ xs.length
    · rw [Nat.min_eq_left q2]
    · rw [Nat.min_eq_right (by omega), List.take_of_length_le (by rw [List.length_drop]; omega), List.take_of_length_le (by rw [List.length_drop]; omega)]
  · rw [Nat.min_eq_right (show xs.length ≤ a by omega), List.drop_of_length_le (Nat.le_refl _), List.drop_of_length_le (show xs.length ≤ a by omega)]; simp
/-! ### data kept -/
theorem sqT_same {a : Addr} {xs : List V} (s : Same H H') (h : SqT K H a xs) : SqT K H' a xs := by
  rcases h with (h | ⟨o, h⟩) | h
  · exact .inl (.inl (s _ _ h))
  · exact .inl (.inr ⟨o, s _ _ h⟩)
  · exact .inr h
mutual
theorem dp_same (s : Same H H') : ∀ (d : PyData) (v : V), Dp K H v d → Dp K H' v d
  | .none, _, h => by cases h; exact .non
  | .bool b, _, h => by cases h; exact .bl b
  | .int i, _, h => by cases h; exact .int i
  | .str y, _, h => by cases h; exact .str y
  | .list ds, _, h => by
    cases h with
    | lst e a => exact .lst (s.seq e) (dp_sameAll s ds _ a)
  | .tuple ds, _, h => by
    cases h with
    | tup e a => exact .tup (sqT_same s e) (dp_sameAll s ds _ a)
  | .dict _, _, h => by cases h
theorem dp_sameAll (s : Same H H') : ∀ (ds : List PyData) (vs : List V), DpAll K H vs ds → DpAll K H' vs ds
  | [], _, h => by cases h; exact .nil
  | d :: ds, _, h => by
    cases h with
    | cons a b => exact .cons (dp_same s d _ a) (dp_sameAll s ds _ b)
end
theorem dpall_len : ∀ {vs : List V} {ds : List PyData}, DpAll K H vs ds → vs.length = ds.length
  | _, _, .nil => rfl
  | _, _, .cons _ b => congrArg (· + 1) (dpall_len b)
theorem dpall_at : ∀ {vs : List V} {ds : List PyData} (h : DpAll K H vs ds) (i : Nat) (hi : i < ds.length), ∃ v, vs[i]? = some v ∧ Dp K H v ds[i]
  | _, _, .cons a b, 0, _ => ⟨_, rfl, a⟩
  | _, _, .cons a b, i + 1, hi => dpall_at b i (Nat.lt_of_succ_lt_succ hi)
theorem depth_at : ∀ {ds : List PyData} {i : Nat} (hi : i < ds.length), ds[i].depth ≤ PyData.depthAll ds
  | d :: ds, 0, _ => Nat.le_max_left _ _
  | d :: ds, i + 1, hi => Nat.le_trans (depth_at (ds := ds) (Nat.lt_of_succ_lt_succ hi)) (Nat.le_max_right _ _)
end
end Xk

set_option Elab.async false
set_option linter.all false
set_option maxRecDepth 100000
namespace Xk
open PySem PySem.Spec PyProof.Rows L2
/-- a new object; the heap behind it is any that keeps all and has it -/
def New (Q : VK) (H : Hp) (o : HO) : Prop := ∀ p, H p = none → Q (.ref p) (upd H p o)
section
variable {K : PySem.W.Frag} {σ : L2.St} {H : Hp} {Q : VK} {o : HO} {tA : TA} {te : TE} {p b : Addr} {xs ys : List V} {ns ms : List Int}
theorem new_ (h : ∀ (p : Addr) (H' : Hp), H p = none → Same H H' → H' p = some o → Q (.ref p) H') : New Q H o := fun p np => h p _ np (same_new np) upd_same
theorem n_lst (h : tA σ H fun xs H1 => xs.length ≤ sizeLine ∧ New Q H1 (.lst xs)) : tLst tA σ H Q := h
theorem n_tup (h : tA σ H fun xs H1 => xs.length ≤ sizeLine ∧ New Q H1 (.tup xs)) : tTup tA σ H Q := h
theorem n_slL {lo hi : Option Int} (h : SqL K H p xs) (q : New Q H (.lst (cutV xs lo hi))) : rSlL K (.ref p) lo hi H Q := ⟨p, xs, rfl, h, q⟩
theorem n_slF {z : Int} {a : Nat} (h : SqL K H p (ns.map V.int)) (e : z = (a : Int)) (q : New Q H (.lst ((ns.drop a).map V.int))) : rSlL K (.ref p) (some z) none H Q :=
  n_slL h (by rw [cut_from e, ← List.map_drop]; exact q)
theorem n_slT {z : Int} {a : Nat} (h : SqL K H p (ns.map V.int)) (e : z = (a : Int)) (q : New Q H (.lst ((ns.take a).map V.int))) : rSlL K (.ref p) none (some z) H Q :=
  n_slL h (by rw [cut_to e, ← List.map_take]; exact q)
theorem n_slM {z y : Int} {a c : Nat} (h : SqL K H p (ns.map V.int)) (e : z = (a : Int)) (g : y = (c : Int)) (q : New Q H (.lst (((ns.drop a).take (c - a)).map V.int))) : rSlL K (.ref p) (some z) (some y) H Q :=
  n_slL h (by rw [cut_any e g, ← List.map_drop, ← List.map_take]; exact q)
theorem n_listOf (h : SqL K H p xs) (q : New Q H (.lst xs)) : rListOf K [.ref p] H Q := ⟨p, xs, rfl, .inl h, q⟩
theorem n_lrg {tr : L2.St → Hp → (Int → Int → Hp → Prop) → Prop} (h : tr σ H fun a b H1 => RgOk a b ∧ New Q H1 (.lst (rgV a b))) : tLstRg tr σ H Q := h
theorem n_revL (h : te σ H fun x H1 => ∃ a xs, x = .ref a ∧ SqL K H1 a xs ∧ New Q H1 (.lst xs.reverse)) : tRevL K te σ H Q := h
theorem n_cat (h : H p = some (.lst xs)) (g : H b = some (.lst ys)) (hz : xs.length + ys.length ≤ sizeLine) (q : New Q H (.lst (xs ++ ys))) : rCat (.ref p) (.ref b) H Q := ⟨p, b, xs, ys, rfl, rfl, h, g, hz, q⟩
theorem n_catI (h : H p = some (.lst (ns.map V.int))) (g : H b = some (.lst (ms.map V.int))) (hz : ns.length + ms.length ≤ 16777216) (q : New Q H (.lst ((ns ++ ms).map V.int))) : rCat (.ref p) (.ref b) H Q :=
  n_cat h g (by rw [List.length_map, List.length_map]; exact hz) (by rw [← List.map_append]; exact q)
theorem s_trans {H0 H1 H2 : Hp} (b : Same H1 H2) (a : Same H0 H1) : Same H0 H2 := a.trans b
theorem s_new {H0 H : Hp} {a : Addr} {o : HO} (np : H a = none) (s : Same H0 H) : Same H0 (upd H a o) := s.trans (same_new np)
theorem sq_new {K : PySem.W.Frag} {H : Hp} {a b : Addr} {o : HO} {xs : List V} (np : H a = none) (s : SqL K H b xs) : SqL K (upd H a o) b xs := (same_new np).seq s
theorem ne_n {H : Hp} {a b : Addr} {u : HO} (n : H b = none) (h : H a = some u) : a ≠ b := ne_of_none h n
theorem ne_n' {H : Hp} {a b : Addr} {u : HO} (n : H a = none) (h : H b = some u) : a ≠ b := (ne_of_none h n).symm
theorem c_chain {r r' : R2} {ta tb tc : TE} {σ : L2.St} {H : Hp} {Q : VK} (h : ta σ H fun x H1 => tb σ H1 fun y H2 => r x y H2 fun z H3 => ∃ k, z = .bl k ∧ (if k = true then tc σ H3 fun w' H4 => r' y w' H4 Q else Q (.bl false) H3)) : tChain r r' ta tb tc σ H Q := h
theorem n_rep {l : Addr} {n : Nat} {zs : List V} (h : H l = some (.lst zs)) (hn : n ≤ 1000000) (hz : zs.length * n ≤ 16777216) (q : New Q H (.lst (List.replicate n zs).flatten)) : rRep (.ref l) (.int (n : Int)) H Q :=
  ⟨l, n, zs, rfl, rfl, h, by omega, by omega, by rw [Int.toNat_natCast]; exact hz, fun p np => by rw [Int.toNat_natCast]; exact q p np⟩
theorem new_map {xs : List Int} {u : List V} (e : u = xs.map V.int) (h : New Q H (.lst (xs.map V.int))) : New Q H (.lst u) := e ▸ h
end
end Xk
/-- what stands in a heap, and what keeps: back along the one step that made each heap -/
local macro_rules | `(tactic| fail "kp") => `(tactic| with_reducible first
  | assumption | exact L2.upd_same | exact L2.Same.refl _
  | (apply Xk.same_to; assumption; fail "kp")
  | (apply L2.Same.seq; assumption; fail "kp")
  | (apply Xk.sx_to; assumption; fail "kpn"; fail "kp")
  | (apply Xk.upd_old; assumption; fail "kp")
  | (apply Xk.upd_to; fail "kpn"; fail "kp")
  | (apply Xk.s_trans; assumption; fail "kp")
  | (apply Xk.s_new; assumption; fail "kp")
  | (apply Xk.sq_new; assumption; fail "kp")
  | (apply Xk.sqT_same; assumption; fail "kp")
  | (apply Xk.sq; fail "kp")
  | (apply Xk.sqT; fail "kp"))
/-- another address -/
local macro_rules | `(tactic| fail "kpn") => `(tactic| with_reducible first | assumption | (apply Ne.symm; assumption) | (apply Xk.ne_n; assumption; fail "kp") | (apply Xk.ne_n'; assumption; fail "kp"))
local macro_rules | `(tactic| fail "ww1") => `(tactic| with_reducible first
  | refine Xk.c_chain ?_ | refine Xk.n_lst ?_ | refine Xk.n_tup ?_ | refine Xk.n_lrg ?_ | refine Xk.n_revL ?_)
local macro_rules | `(tactic| fail "ww2") => `(tactic| first
  | ((with_reducible refine' Xk.r_var ?hv ?_); (case hv => exact rfl))
  | ((with_reducible refine' Xk.r_aug ?hv ?_); (case hv => exact rfl))
  | ((with_reducible refine' Xk.r_ixL ?hv ?hw ?_); (case hv => fail "kp"); (case hw => fail "at"))
  | ((with_reducible refine' Xk.r_setL ?hv ?hw ?_); (case hv => fail "kp"); (case hw => fail "ix"))
  | ((with_reducible refine' Xk.r_gtup ?hv ?hw ?_); (case hv => exact Xk.sqT (by fail "kp")); (case hw => exact rfl))
  | ((with_reducible refine' ⟨Xk.ty_list (K := _) (xs := _) ?hv, ?_⟩); (case hv => fail "kp"))
  | ((with_reducible refine' Xk.r_append ?hv ?hw ?_); (case hv => fail "kp"); (case hw => fail "sd"))
  | ((with_reducible refine' Xk.r_I (C := fun _ j => 0 < j) ?hv ?_); (case hv => (first | omega | (show (0 : Int) < _; omega) | decide)))
  | ((with_reducible refine' Xk.r_len ?hv ?_); (case hv => fail "kp"))
  | ((with_reducible refine' Xk.n_listOf ?hv ?_); (case hv => fail "kp"))
  | ((with_reducible refine' Xk.r_I (C := Xk.CPowW) ?hv ?_); (case hv => exact ⟨by decide, by decide⟩))
  | (with_reducible refine ⟨Xk.szL (by with_unfolding_all rfl), ?_⟩)
  | ((with_reducible refine' ⟨_, _, rfl, ?hv, ?_⟩); (case hv => ((with_reducible show L2.SqL _ _ _ _); fail "kp")))
  | (with_reducible refine ⟨_, _, _, _, rfl, Xk.sq (by fail "kp"), Xk.sq (by fail "kp"), ?_⟩)
  | ((with_reducible refine' ⟨⟨_, ?hv⟩, ?_⟩); (case hv => ((with_reducible show L2.SqL _ _ _ _); fail "kp")))
  | (with_reducible refine Or.inl ⟨_, rfl, ?_⟩) | (with_reducible refine Or.inr ⟨_, rfl, ?_⟩)
  | (with_reducible refine ⟨_, _, rfl, rfl, ?_⟩) | (with_reducible refine ⟨_, rfl, ?_⟩) | (with_reducible refine ⟨_, _, rfl, ?_⟩))
local macro_rules | `(tactic| fail "ww") => `(tactic| repeat (first | fail "ww1" | fail "one" | fail "ww2"))

set_option Elab.async false
set_option linter.all false
set_option maxRecDepth 100000
set_option maxHeartbeats 4000000
namespace Xk
open PySem PySem.Spec PyProof.Rows L2
/-! ### dicts with tuples as keys -/
/-- {k: v}, k a tuple -/
def tDispT (trs : List (TE × TE)) : TE := fun σ H Q => ∀ p, H p = none → tPairs trs σ (upd H p (.dT [])) fun ps H2 => H2 p = some (.dT []) ∧ ∃ (b : Addr) (ks : List Key) (v : V), ps = [(.ref b, v)] ∧ H2 b = some (.tup (ks.map kV)) ∧ Q (.ref p) (upd H2 p (.dT [(ks, v)]))
section
variable {X : Cx}
theorem vv_one {b : Addr} {x : V} : ∀ {vs : List (Value × Value)}, Paired (fun (p : V × V) (q : Value × Value) => RelV p.1 q.1 ∧ RelV p.2 q.2) [(.ref b, x)] vs → ∃ u, vs = [(.ref b, u)] ∧ RelV x u
  | _, .cons (b := (w1, w2)) h .nil => by
    have e : w1 = Value.ref b := h.1
    exact ⟨w2, by rw [e], h.2⟩
theorem pe_dispT {k v : Expr} {trs : List (TE × TE)} {pos : Pos} (hu : X.A.units + 64 < cLine) (h : PPs X pos [some k] [v] trs) : PE X (.Dict [some k] [v] pos) (tDispT trs) := by
  refine ⟨fun pins s σ H Q I z => ?_⟩
  have I1 : Inv X pins σ (upd H s.heap.objs.size (.dT [])) { s with heap := s.heap.push { cls := .type "dict", data := .dict #[] } } :=
    I.laid (t' := s.toks) (fun b o y => Heap.get?_push_of_some _ y) (Nat.le_refl _) (dt_empty _ I.big)
  have np : H s.heap.objs.size = none := I.hok.fresh (Nat.le_refl _)
  have hrun := h.run pins _ σ _ _ I1 (z _ np)
  obtain ⟨pr, epr⟩ : ∃ pr, pairTrees [some k] [v] X.env pos = [pr] := ⟨_, rfl⟩
  have earm : eval (.Dict [some k] [v] pos) X.env = (do standAt pos; dictDisplay (List.map (fun p => (some p.1, p.2)) (pairTrees [some k] [v] X.env pos))) := arm_eval_Dict _ _ _ _
  rw [earm, epr]
  rw [epr] at hrun
  clear earm epr
  rw [dictDisplay_pairs [pr] (List.cons_ne_nil _ _) (by show 1 < 17; decide)]
  refine wpAny_bind (wpAny_standAt ?_)
  refine wpAny_bind (wpAny_subDictH (knd := tupleKind (mixKind X.prog X.w)) (by show X.A.units < cLine; omega) (by show 1 ≤ 15; decide) ?_)
  refine wpAny_mono hrun (fun vs s1 ⟨ps, H2, J, hv, hp, b, ks, x, eps, hb, q⟩ => ?_) fun _ _ y => y
  subst eps
  obtain ⟨u, rfl, hu'⟩ : ∃ u, vs = [(.ref b, u)] ∧ RelV x u := vv_one hv
  obtain ⟨_, low, xs, hk, hd⟩ := dt_of J.hok hp
  cases hk
  refine ⟨[(ks, b, u)], ⟨rfl, rfl, key_of J.hok hb, True.intro⟩, hd, fun h' tk hd' sb => ?_⟩
  refine wpAny_pure ⟨.ref _, _, d_write J (by rw [hp]; exact True.intro) sb ?_ ?_, rfl, q⟩
  · obtain ⟨o, _, _, ho, _⟩ := hd'; exact ⟨o, ho⟩
  · obtain ⟨o, es, ep, h1, h2, h3, h4, h5, h6⟩ := hd'
    exact ⟨by show 1 ≤ sizeLine; rw [sizeLine_eq]; decide, low, [(ks, b, u)], .cons ⟨rfl, (by rw [upd_ne (ne_of hb hp (by intro z; cases z))]; exact hb), hu'⟩ .nil, o, es, ep, h1, h2, h3, h4, h6⟩
end
end Xk
namespace Xk
open PySem PySem.Spec PyProof.Rows L2
section
variable {σ : L2.St} {H : Hp} {Q : VK} {ty td te : TE} {trs : List (TE × TE)} {R : It → Hp → Prop}
theorem r_dnotin (h : ty σ H fun y H1 => td σ H1 fun x H2 => ∃ a o, x = .ref a ∧ DGet H2 a y o ∧ Q (.bl (!o.isSome)) H2) : tDNotIn ty td σ H Q := h
theorem r_din (h : ty σ H fun y H1 => td σ H1 fun x H2 => ∃ a o, x = .ref a ∧ DGet H2 a y o ∧ Q (.bl o.isSome) H2) : tDIn ty td σ H Q := h
theorem r_dgetT (h : td σ H fun x H1 => ty σ H1 fun y H2 => ∃ a v, x = .ref a ∧ DGet H2 a y (some v) ∧ Q v H2) : tDGet td ty σ H Q := h
theorem r_dispT (h : ∀ p, H p = none → tPairs trs σ (upd H p (.dT [])) fun ps H2 => H2 p = some (.dT []) ∧ ∃ (b : Addr) (ks : List Key) (v : V), ps = [(.ref b, v)] ∧ H2 b = some (.tup (ks.map kV)) ∧ Q (.ref p) (upd H2 p (.dT [(ks, v)]))) : tDispT trs σ H Q := h
theorem r_lockE {t : TE} (d : Addr) (kvs : List (List Key × V)) (hd : H d = some (.dT kvs)) (h : ∀ od, t σ (upd H d (.frz od (.dT kvs))) fun v H' => H' d = some (.frz od (.dT kvs)) ∧ Q v (upd H' d (.dT kvs))) : tLockE t σ H Q := ⟨d, _, hd, True.intro, h⟩
theorem r_dput {tv : TE} {D : Ends} (h : tv σ H fun v H1 => td σ H1 fun x H2 => ty σ H2 fun y H3 => ∃ a H4, x = .ref a ∧ DPut H3 a y v H4 ∧ D.nx σ H4) : sDPut td ty tv D σ H := h
theorem walk_keysT {d : Addr} {o : Obj} {kvs : List (List Key × V)} : Walk (Itkt d o kvs) kvs.length (fun H => H d = some (.frz o (.dT kvs))) (fun i H x H' => H' = H ∧ ∃ k v q, kvs[i]? = some (k, v) ∧ x = .ref q ∧ H q = some (.tup (k.map kV))) :=
  ⟨fun i H hi h => ⟨h, hi⟩, fun H h => ⟨h, Nat.le_refl _⟩, fun i H x H' _ _ y => y⟩
theorem r_iKeysT {Rr : It → Hp → Prop} (h : td σ H fun x H1 => ∃ d o kvs, x = .ref d ∧ H1 d = some (.frz o (.dT kvs)) ∧ Rr (Itkt d o kvs) H1) (hm : ∀ (P P' : V → Hp → Prop), (∀ x H, P x H → P' x H) → td σ H P → td σ H P') : iKeys td σ H Rr :=
  hm _ _ (fun x H1 ⟨d, o, kvs, e, g, r⟩ => ⟨d, o, e, .inr ⟨kvs, g, r⟩⟩) h
end
end Xk
local macro_rules | `(tactic| fail "ww1") => `(tactic| with_reducible first | refine Xk.r_dnotin ?_ | refine Xk.r_din ?_ | refine Xk.r_dispT ?_ | refine Xk.r_dput ?_)

namespace My
def IsArr (l : List Int) : Prop := l.Nodup ∧ ∀ v ∈ l, 1 ≤ v ∧ v ≤ l.length
/-- how many of the first p values are at most q -/
def cnt (l : List Int) (p q : Nat) : Nat := ((l.take p).filter (fun v => decide (v ≤ (q : Int)))).length
theorem cnt_zero (l : List Int) (q : Nat) : cnt l 0 q = 0 := by simp [cnt]
theorem cnt_succ {l : List Int} {p : Nat} (h : p < l.length) (q : Nat) : cnt l (p + 1) q = cnt l p q + if l[p] ≤ (q : Int) then 1 else 0 := by
  unfold cnt
  rw [List.take_add_one, List.getElem?_eq_getElem h, List.filter_append, List.length_append]
  by_cases e : l[p] ≤ (q : Int) <;> simp [e]
def AtMost (a b : List Int) : Prop := ∀ p q : Nat, cnt b p q ≤ cnt a p q
theorem cnt_all {l : List Int} {p q : Nat} (h : ∀ v ∈ l, v ≤ (q : Int)) : cnt l p q = min p l.length := by
  unfold cnt
  rw [List.filter_eq_self.mpr fun v hv => decide_eq_true (h v (List.mem_of_mem_take hv)), List.length_take]
theorem cnt_none {l : List Int} {p : Nat} (h : ∀ v ∈ l, 1 ≤ v) : cnt l p 0 = 0 := by
  unfold cnt
  rw [List.length_eq_zero_iff, List.filter_eq_nil_iff]
  intro v hv
  have := h v (List.mem_of_mem_take hv)
  simp; omega
theorem cnt_over {l : List Int} {p q : Nat} (h : l.length ≤ p) : cnt l p q = cnt l l.length q := by
  unfold cnt
  rw [List.take_of_length_le h, List.take_of_length_le (Nat.le_refl _)]
/-- counts with limits below the size tell everything -/
theorem most_iff {a b : List Int} (ha : IsArr a) (hb : IsArr b) (hl : a.length = b.length) : AtMost a b ↔ ∀ p, p ≤ a.length → ∀ q, q < a.length → cnt b p q ≤ cnt a p q := by
  refine ⟨fun h p _ q _ => h p q, fun h p q => ?_⟩
  have key : ∀ p, p ≤ a.length → cnt b p q ≤ cnt a p q := fun p hp => by
    by_cases hq : q < a.length
    · exact h p hp q hq
    · rw [cnt_all fun v hv => Int.le_trans (hb.2 v hv).2 (by omega), cnt_all fun v hv => Int.le_trans (ha.2 v hv).2 (by omega), hl]
      exact Nat.le_refl _
  by_cases hp : p ≤ a.length
  · exact key p hp
  · rw [cnt_over (l := a) (by omega), cnt_over (l := b) (by omega), ← hl]
    exact key _ (Nat.le_refl _)
noncomputable instance (a b : List Int) : Decidable (AtMost a b) := Classical.propDecidable _
theorem arr_asc {l : List Int} {n : Nat} (h : l.Perm ((List.range n).map fun (i : Nat) => (1 + i : Int))) : IsArr l := by
  have hl : l.length = n := by rw [h.length_eq]; simp
  refine ⟨h.symm.nodup ?_, fun v hv => ?_⟩
  · rw [List.Nodup, List.pairwise_map]
    exact List.nodup_range.imp fun h q => h (by omega)
  · obtain ⟨k, hk, rfl⟩ := List.mem_map.mp (h.mem_iff.mp hv)
    have := List.mem_range.mp hk
    omega
/-- a row of numbers by a function of the place -/
def tab (n : Nat) (f : Nat → Int) : List Int := (List.range n).map f
theorem tab_len (n : Nat) (f : Nat → Int) : (tab n f).length = n := by simp [tab]
theorem tab_get {n : Nat} {f : Nat → Int} {k : Nat} (h : k < n) : (tab n f)[k]? = some (f k) := by simp [tab, h]
theorem tab_set {n : Nat} {f : Nat → Int} {k : Nat} {v : Int} : (tab n f).set k v = tab n fun q => if q = k then v else f q := by
  apply List.ext_getElem
  · simp [tab]
  · intro i h1 h2
    rw [List.getElem_set]
    simp only [tab, List.getElem_map, List.getElem_range]
    by_cases e : k = i
    · subst e; simp
    · rw [if_neg e, if_neg (fun q => e q.symm)]
theorem tab_congr {n : Nat} {f g : Nat → Int} (h : ∀ q, q < n → f q = g q) : tab n f = tab n g := by
  unfold tab
  exact List.map_congr_left fun q hq => h q (List.mem_range.mp hq)
theorem tab_const (n : Nat) (c : Int) : List.replicate n c = tab n fun _ => c := by
  apply List.ext_getElem <;> simp [tab]
end My
namespace My
/-! ### sorted lists -/
def ins (x : Int) : List Int → List Int
  | [] => [x]
  | y :: r => if x ≤ y then x :: y :: r else y :: ins x r
def srt : List Int → List Int
  | [] => []
  | x :: r => ins x (srt r)
theorem ins_perm (x : Int) : ∀ l : List Int, (ins x l).Perm (x :: l)
  | [] => List.Perm.refl _
  | y :: r => by
    unfold ins
    split
    · exact List.Perm.refl _
    · exact ((ins_perm x r).cons y).trans (List.Perm.swap x y r)
theorem srt_perm : ∀ l : List Int, (srt l).Perm l
  | [] => List.Perm.refl _
  | x :: r => (ins_perm x (srt r)).trans ((srt_perm r).cons x)
theorem ins_up (x : Int) : ∀ l : List Int, l.Pairwise (· ≤ ·) → (ins x l).Pairwise (· ≤ ·)
  | [], _ => List.pairwise_singleton _ _
  | y :: r, h => by
    have h1 := List.pairwise_cons.mp h
    unfold ins
    split
    · rename_i hxy
      exact List.pairwise_cons.mpr ⟨fun z hz => by
        rcases List.mem_cons.mp hz with e | e
        · rw [e]; exact hxy
        · exact Int.le_trans hxy (h1.1 z e), h⟩
    · refine List.pairwise_cons.mpr ⟨fun z hz => ?_, ins_up x r h1.2⟩
      rcases List.mem_cons.mp ((ins_perm x r).mem_iff.mp hz) with e | e
      · rw [e]; omega
      · exact h1.1 z e
theorem srt_up : ∀ l : List Int, (srt l).Pairwise (· ≤ ·)
  | [] => List.Pairwise.nil
  | x :: r => ins_up x _ (srt_up r)
theorem up_unique : ∀ {l m : List Int}, l.Perm m → l.Pairwise (· ≤ ·) → m.Pairwise (· ≤ ·) → l = m
  | [], m, h, _, _ => (h.nil_eq).symm ▸ rfl
  | x :: r, m, h, h1, h2 => by
    cases m with
    | nil => exact absurd h.eq_nil (by simp)
    | cons y t =>
      have a1 := List.pairwise_cons.mp h1
      have a2 := List.pairwise_cons.mp h2
      have e : x = y := by
        have hx : x ∈ y :: t := h.mem_iff.mp List.mem_cons_self
        have hy : y ∈ x :: r := h.mem_iff.mpr List.mem_cons_self
        rcases List.mem_cons.mp hx with q | q
        · exact q
        · rcases List.mem_cons.mp hy with q' | q'
          · exact q'.symm
          · have := a1.1 y q'; have := a2.1 x q; omega
      subst e
      rw [up_unique ((List.perm_cons x).mp h) a1.2 a2.2]
theorem srt_is {l m : List Int} (h : m.Perm l) (u : m.Pairwise (· ≤ ·)) : m = srt l := up_unique (h.trans (srt_perm l).symm) u (srt_up l)
theorem srt_len (l : List Int) : (srt l).length = l.length := (srt_perm l).length_eq
/-- the values at the places i to j sorted -/
def seg (l : List Int) (i j : Nat) : List Int := l.take (i - 1) ++ srt ((l.drop (i - 1)).take (j - (i - 1))) ++ l.drop j
theorem seg_perm {l : List Int} {i j : Nat} (h1 : i ≤ j) (_h2 : j ≤ l.length) : (seg l i j).Perm l := by
  unfold seg
  have e : l = l.take (i - 1) ++ (l.drop (i - 1)).take (j - (i - 1)) ++ l.drop j := by
    conv => lhs; rw [← List.take_append_drop (i - 1) l, ← List.take_append_drop (j - (i - 1)) (l.drop (i - 1)), List.drop_drop]
    rw [List.append_assoc, show i - 1 + (j - (i - 1)) = j by omega]
  conv => rhs; rw [e]
  exact ((srt_perm _).append_left _).append_right _
theorem seg_len {l : List Int} {i j : Nat} (h1 : i ≤ j) (h2 : j ≤ l.length) : (seg l i j).length = l.length := (seg_perm h1 h2).length_eq
abbrev Cmd := Nat × Nat
def step (l : List Int) (c : Cmd) : List Int := seg l c.1 c.2
def runM (l : List Int) (cs : List Cmd) : List Int := cs.foldl step l
/-- the commands fit rows of n places -/
def Fits (n : Nat) (cs : List Cmd) : Prop := ∀ c ∈ cs, 1 ≤ c.1 ∧ c.1 ≤ c.2 ∧ c.2 ≤ n
theorem runM_perm : ∀ (cs : List Cmd) (l : List Int), Fits l.length cs → (runM l cs).Perm l
  | [], l, _ => List.Perm.refl l
  | c :: r, l, h => by
    have hc := h c List.mem_cons_self
    have p := seg_perm hc.2.1 hc.2.2
    refine List.Perm.trans (runM_perm r (step l c) ?_) p
    show Fits (seg l c.1 c.2).length r
    rw [p.length_eq]
    exact fun d hd => h d (List.mem_cons_of_mem _ hd)
theorem runM_len {cs : List Cmd} {l : List Int} (h : Fits l.length cs) : (runM l cs).length = l.length := (runM_perm cs l h).length_eq
theorem runM_snoc (l : List Int) (cs : List Cmd) (c : Cmd) : runM l (cs ++ [c]) = step (runM l cs) c := by unfold runM; rw [List.foldl_append]; rfl
theorem runM_app (l : List Int) (cs ds : List Cmd) : runM l (cs ++ ds) = runM (runM l cs) ds := List.foldl_append ..
theorem Fits.take {n k : Nat} {cs : List Cmd} (h : Fits n cs) : Fits n (cs.take k) := fun c hc => h c (List.mem_of_mem_take hc)
theorem Fits.drop {n k : Nat} {cs : List Cmd} (h : Fits n cs) : Fits n (cs.drop k) := fun c hc => h c (List.mem_of_mem_drop hc)
end My
namespace My
/-! ### counts of small values ahead of a place -/
def zc (l : List Int) (t : Int) (p : Nat) : Nat := (l.take p).countP (fun v => decide (v ≤ t))
theorem zc_succ {l : List Int} {p : Nat} (h : p < l.length) (t : Int) : zc l t (p + 1) = zc l t p + if l[p] ≤ t then 1 else 0 := by
  unfold zc
  rw [List.take_add_one, List.getElem?_eq_getElem h, List.countP_append]
  by_cases g : l[p] ≤ t <;> simp [g]
theorem zc_le (l : List Int) (t : Int) (p : Nat) : zc l t p ≤ p := Nat.le_trans List.countP_le_length (by rw [List.length_take]; omega)
theorem zc_step (l : List Int) (t : Int) (p : Nat) : zc l t p ≤ zc l t (p + 1) ∧ zc l t (p + 1) ≤ zc l t p + 1 := by
  by_cases h : p < l.length
  · rw [zc_succ h]; split <;> omega
  · have : zc l t (p + 1) = zc l t p := by unfold zc; rw [List.take_of_length_le (by omega), List.take_of_length_le (by omega)]
    omega
theorem zc_mono {l : List Int} {t : Int} {p : Nat} : ∀ d, zc l t p ≤ zc l t (p + d) ∧ zc l t (p + d) ≤ zc l t p + d
  | 0 => by simp
  | d + 1 => by
    have h1 := zc_mono (l := l) (t := t) (p := p) d
    have h2 := zc_step l t (p + d)
    rw [show p + (d + 1) = p + d + 1 by omega]
    omega
theorem up_zc (t : Int) : ∀ (s : List Int) (k : Nat), s.Pairwise (· ≤ ·) → zc s t k = min k (s.countP (fun v => decide (v ≤ t)))
  | [], k, _ => by simp [zc]
  | x :: r, 0, _ => by simp [zc]
  | x :: r, k + 1, h => by
    have h1 := List.pairwise_cons.mp h
    have ih := up_zc t r k h1.2
    unfold zc at ih ⊢
    rw [List.take_succ_cons, List.countP_cons, List.countP_cons]
    by_cases g : x ≤ t
    · simp only [g, decide_true, if_true]; rw [ih]; omega
    · have z : r.countP (fun v => decide (v ≤ t)) = 0 := List.countP_eq_zero.mpr fun v hv => by have := h1.1 v hv; simp; omega
      rw [z] at ih ⊢
      simp only [g, decide_false, Bool.false_eq_true, if_false]; rw [ih]; simp
theorem zc_app (a b : List Int) (t : Int) (p : Nat) : zc (a ++ b) t p = zc a t p + zc b t (p - a.length) := by
  unfold zc; rw [List.take_append, List.countP_append]
theorem zc_all {l : List Int} {t : Int} {p : Nat} (h : l.length ≤ p) : zc l t p = l.countP (fun v => decide (v ≤ t)) := by unfold zc; rw [List.take_of_length_le h]
theorem zc_seg {l : List Int} {i j : Nat} (h1 : 1 ≤ i) (h2 : i ≤ j) (h3 : j ≤ l.length) (t : Int) (p : Nat) :
    zc (seg l i j) t p = if p < i ∨ j < p then zc l t p else min (zc l t (i - 1) + (p - (i - 1))) (zc l t j) := by
  obtain ⟨A, M, B, rfl, hA, hM⟩ : ∃ A M B, l = A ++ M ++ B ∧ A.length = i - 1 ∧ M.length = j - (i - 1) := by
    refine ⟨l.take (i - 1), (l.drop (i - 1)).take (j - (i - 1)), l.drop j, ?_, by rw [List.length_take]; omega, by rw [List.length_take, List.length_drop]; omega⟩
    conv => lhs; rw [← List.take_append_drop (i - 1) l, ← List.take_append_drop (j - (i - 1)) (l.drop (i - 1)), List.drop_drop]
    rw [List.append_assoc, show i - 1 + (j - (i - 1)) = j by omega]
  have e : seg (A ++ M ++ B) i j = A ++ srt M ++ B := by
    unfold seg
    have e1 : (A ++ M ++ B).take (i - 1) = A := by rw [List.append_assoc, ← hA, List.take_left]
    have e2 : (A ++ M ++ B).drop (i - 1) = M ++ B := by rw [List.append_assoc, ← hA, List.drop_left]
    have e3 : (A ++ M ++ B).drop j = B := by rw [show j = (A ++ M).length by rw [List.length_append]; omega, List.drop_left]
    rw [e1, e2, e3, ← hM, List.take_left]
  rw [e]
  have hs : (srt M).length = M.length := srt_len M
  have cM : (srt M).countP (fun v => decide (v ≤ t)) = M.countP (fun v => decide (v ≤ t)) := (srt_perm M).countP_eq _
  simp only [zc_app, List.length_append, hs, hA, hM]
  rw [zc_all (l := A) (p := j) (by omega), zc_all (l := M) (p := j - (i - 1)) (by omega), show j - (i - 1 + (j - (i - 1))) = 0 by omega]
  rw [zc_all (l := A) (p := i - 1) (by omega), show i - 1 - (i - 1) = 0 by omega, show i - 1 - (i - 1 + (j - (i - 1))) = 0 by omega]
  have z0 : ∀ b : List Int, zc b t 0 = 0 := fun b => by simp [zc]
  rw [z0, z0, up_zc t _ _ (srt_up M), cM]
  by_cases g : p < i ∨ j < p
  · rw [if_pos g]
    rcases g with g | g
    · rw [show p - (i - 1) = 0 by omega]; rw [z0]; simp
    · rw [zc_all (l := M) (p := p - (i - 1)) (by omega)]
      have := List.countP_le_length (p := fun v => decide (v ≤ t)) (l := M)
      omega
  · rw [if_neg g, zc_all (l := A) (p := p) (by omega), show p - (i - 1 + (j - (i - 1))) = 0 by omega, z0]
    omega
/-- rows of one length with the same counts are equal -/
theorem zc_ext {l m : List Int} (hl : l.length = m.length) (h : ∀ t p, p ≤ l.length → zc l t p = zc m t p) : l = m := by
  refine List.ext_getElem hl fun k h1 h2 => ?_
  have key : ∀ t, l[k] ≤ t ↔ m[k] ≤ t := fun t => by
    have a := h t (k + 1) (by omega)
    rw [zc_succ h1, zc_succ h2, h t k (by omega)] at a
    by_cases g : l[k] ≤ t <;> by_cases g' : m[k] ≤ t <;> simp [g, g'] at a ⊢
  have := (key l[k]).mp (Int.le_refl _)
  have := (key m[k]).mpr (Int.le_refl _)
  omega
def desc (n : Nat) : List Int := (List.range n).map fun (k : Nat) => ((n : Int) - k)
theorem desc_len (n : Nat) : (desc n).length = n := by simp [desc]
theorem desc_get {n k : Nat} (h : k < (desc n).length) : (desc n)[k] = (n : Int) - k := by simp [desc]
theorem zc_desc {n : Nat} (q : Nat) (hq : q ≤ n) : ∀ p, p ≤ n → zc (desc n) ((n : Int) - q) p = p - q
  | 0, _ => by simp [zc]
  | p + 1, h => by
    have h' : p < (desc n).length := by rw [desc_len]; omega
    rw [zc_succ h', zc_desc q hq p (by omega), desc_get]
    split <;> omega
/-- what a script makes of a row, told by what it makes of the descending arrangement -/
def Told (n : Nat) (l0 l e : List Int) : Prop := l.length = n ∧ e.length = n ∧ ∀ (t : Int) (p : Nat), p ≤ n →
  (∀ q, q ≤ n → zc l t p ≤ zc l0 t q + zc e ((n : Int) - q) p) ∧ ∃ q, q ≤ n ∧ zc l t p = zc l0 t q + zc e ((n : Int) - q) p
theorem told_nil {l : List Int} : Told l.length l l (desc l.length) := ⟨rfl, desc_len _, fun t p hp => ⟨fun q hq => by
    rw [zc_desc q hq p hp]
    by_cases g : q ≤ p
    · have := (zc_mono (l := l) (t := t) (p := q) (p - q)).2
      rw [show q + (p - q) = p by omega] at this
      exact this
    · have := (zc_mono (l := l) (t := t) (p := p) (q - p)).1
      rw [show p + (q - p) = q by omega] at this
      omega, p, hp, by rw [zc_desc p hp p hp]; omega⟩⟩
theorem told_step {n : Nat} {l0 l e : List Int} {c : Cmd} (h1 : 1 ≤ c.1) (h2 : c.1 ≤ c.2) (h3 : c.2 ≤ n) (h : Told n l0 l e) : Told n l0 (step l c) (step e c) := by
  obtain ⟨hl, he, h⟩ := h
  refine ⟨(seg_len h2 (by omega)).trans hl, (seg_len h2 (by omega)).trans he, fun t p hp => ?_⟩
  have key : zc (step l c) t p = if p < c.1 ∨ c.2 < p then zc l t p else min (zc l t (c.1 - 1) + (p - (c.1 - 1))) (zc l t c.2) := zc_seg (l := l) h1 h2 (by omega) t p
  have kee : ∀ q : Nat, zc (step e c) ((n : Int) - q) p = _ := fun q => zc_seg (l := e) h1 h2 (by omega) ((n : Int) - q) p
  by_cases g : p < c.1 ∨ c.2 < p
  · have a := h t p hp
    refine ⟨fun q hq => ?_, ?_⟩
    · rw [key, kee q, if_pos g, if_pos g]; exact a.1 q hq
    · obtain ⟨q, hq, e1⟩ := a.2
      exact ⟨q, hq, by rw [key, kee q, if_pos g, if_pos g]; exact e1⟩
  · have a := h t (c.1 - 1) (by omega)
    have b := h t c.2 h3
    refine ⟨fun q hq => ?_, ?_⟩
    · rw [key, kee q, if_neg g, if_neg g]
      have := a.1 q hq; have := b.1 q hq
      omega
    · by_cases w : zc l t (c.1 - 1) + (p - (c.1 - 1)) ≤ zc l t c.2
      · obtain ⟨q, hq, e1⟩ := a.2
        refine ⟨q, hq, ?_⟩
        rw [key, kee q, if_neg g, if_neg g]
        have := b.1 q hq
        omega
      · obtain ⟨q, hq, e1⟩ := b.2
        refine ⟨q, hq, ?_⟩
        rw [key, kee q, if_neg g, if_neg g]
        have := a.1 q hq
        omega
theorem told_run {n : Nat} {l0 : List Int} : ∀ (cs : List Cmd) (l e : List Int), Fits n cs → Told n l0 l e → Told n l0 (runM l cs) (runM e cs)
  | [], _, _, _, h => h
  | c :: r, l, e, f, h => told_run r (step l c) (step e c) (fun d hd => f d (List.mem_cons_of_mem _ hd))
      (told_step (f c List.mem_cons_self).1 (f c List.mem_cons_self).2.1 (f c List.mem_cons_self).2.2 h)
theorem told_one {n : Nat} {l0 l m e : List Int} (h : Told n l0 l e) (g : Told n l0 m e) : l = m :=
  zc_ext (h.1.trans g.1.symm) fun t p hp => by
    rw [h.1] at hp
    obtain ⟨q, hq, e1⟩ := (h.2.2 t p hp).2
    obtain ⟨q', hq', e2⟩ := (g.2.2 t p hp).2
    have := (h.2.2 t p hp).1 q' hq'
    have := (g.2.2 t p hp).1 q hq
    omega
/-- scripts with one effect do the same -/
theorem same_eff {cs ds : List Cmd} {l : List Int} (hc : Fits l.length cs) (hd : Fits l.length ds) (h : runM (desc l.length) cs = runM (desc l.length) ds) : runM l cs = runM l ds := by
  have a := told_run cs l (desc l.length) hc told_nil
  have b := told_run ds l (desc l.length) hd told_nil
  rw [← h] at b
  exact told_one a b
end My
namespace My
/-! ### exchanges of neighbours -/
theorem two_at {l : List Int} {k : Nat} (h1 : 1 ≤ k) (h2 : k < l.length) : ∃ A B, l = A ++ l[k - 1] :: l[k] :: B ∧ A.length = k - 1 := by
  refine ⟨l.take (k - 1), l.drop (k + 1), ?_, by rw [List.length_take]; omega⟩
  have e1 : l.drop (k - 1) = l[k - 1] :: l.drop k := by
    rw [List.drop_eq_getElem_cons (by omega)]
    simp only [show k - 1 + 1 = k by omega]
  have e2 : l.drop k = l[k] :: l.drop (k + 1) := List.drop_eq_getElem_cons h2
  rw [← e2, ← e1, List.take_append_drop]
theorem seg_two {A B : List Int} {a b : Int} {k : Nat} (h1 : 1 ≤ k) (hA : A.length = k - 1) : seg (A ++ a :: b :: B) k (k + 1) = if b < a then A ++ b :: a :: B else A ++ a :: b :: B := by
  unfold seg
  have e1 : (A ++ a :: b :: B).take (k - 1) = A := by rw [← hA, List.take_left]
  have e2 : (A ++ a :: b :: B).drop (k - 1) = a :: b :: B := by rw [← hA, List.drop_left]
  have e3 : (A ++ a :: b :: B).drop (k + 1) = B := by
    rw [show A ++ a :: b :: B = (A ++ [a, b]) ++ B by simp, show k + 1 = (A ++ [a, b]).length by rw [List.length_append]; show _ = A.length + 2; omega, List.drop_left]
  rw [e1, e2, e3, show k + 1 - (k - 1) = 2 by omega]
  have e4 : srt [a, b] = if a ≤ b then [a, b] else [b, a] := by simp [srt, ins]
  show A ++ srt [a, b] ++ B = _
  rw [e4]
  by_cases g : a ≤ b
  · rw [if_pos g, if_neg (by omega)]; simp
  · rw [if_neg g, if_pos (by omega)]; simp
/-- two neighbours exchanged -/
def swp (l : List Int) (k : Nat) (x y : Int) : List Int := (l.set (k - 1) x).set k y
theorem swp_two {A B : List Int} {a b x y : Int} {k : Nat} (h1 : 1 ≤ k) (hA : A.length = k - 1) : swp (A ++ a :: b :: B) k x y = A ++ x :: y :: B := by
  unfold swp
  rw [List.set_append_right _ _ (by omega), show k - 1 - A.length = 0 by omega]
  rw [List.set_append_right _ _ (by omega), show k - A.length = 1 by omega]
  rfl
theorem nb_gt {l : List Int} {k : Nat} (h1 : 1 ≤ k) (h2 : k < l.length) (g : l[k] < l[k - 1]) : seg l k (k + 1) = swp l k l[k] l[k - 1] := by
  obtain ⟨A, B, e, hA⟩ := two_at h1 h2
  generalize l[k] = b at e g; generalize l[k - 1] = a at e g
  rw [e, seg_two h1 hA, if_pos g, swp_two h1 hA]
theorem nb_le {l : List Int} {k : Nat} (h1 : 1 ≤ k) (h2 : k < l.length) (g : ¬ l[k] < l[k - 1]) : seg l k (k + 1) = l := by
  obtain ⟨A, B, e, hA⟩ := two_at h1 h2
  generalize l[k] = b at e g; generalize l[k - 1] = a at e g
  rw [e, seg_two h1 hA, if_neg g]
theorem swp_len {l : List Int} {k : Nat} {x y : Int} : (swp l k x y).length = l.length := by simp [swp]
theorem nb_back {l : List Int} {k : Nat} (h1 : 1 ≤ k) (h2 : k < l.length) (g : l[k - 1] < l[k]) : seg (swp l k l[k] l[k - 1]) k (k + 1) = l := by
  obtain ⟨A, B, e, hA⟩ := two_at h1 h2
  generalize l[k] = b at e g ⊢; generalize l[k - 1] = a at e g ⊢
  rw [e, swp_two h1 hA, seg_two h1 hA, if_pos g]
theorem swp_perm {l : List Int} {k : Nat} (h1 : 1 ≤ k) (h2 : k < l.length) : (swp l k l[k] l[k - 1]).Perm l := by
  obtain ⟨A, B, e, hA⟩ := two_at h1 h2
  generalize l[k] = b at e ⊢; generalize l[k - 1] = a at e ⊢
  rw [e, swp_two h1 hA]
  exact (List.Perm.swap _ _ _).append_left _
def nbs (l : List Int) (ps : List Nat) : List Int := runM l (ps.map fun k => (k, k + 1))
def Nb (n : Nat) (ps : List Nat) : Prop := ∀ k ∈ ps, 1 ≤ k ∧ k < n
theorem Nb.fits {n : Nat} {ps : List Nat} (h : Nb n ps) : Fits n (ps.map fun k => (k, k + 1)) := fun c hc => by
  obtain ⟨k, hk, rfl⟩ := List.mem_map.mp hc
  have := h k hk
  show 1 ≤ k ∧ k ≤ k + 1 ∧ k + 1 ≤ n
  omega
theorem nbs_cons (l : List Int) (k : Nat) (ps : List Nat) : nbs l (k :: ps) = nbs (seg l k (k + 1)) ps := rfl
theorem nbs_snoc (l : List Int) (k : Nat) (ps : List Nat) : nbs l (ps ++ [k]) = seg (nbs l ps) k (k + 1) := by unfold nbs; rw [List.map_append, runM_app]; rfl
theorem nbs_len {l : List Int} {ps : List Nat} (h : Nb l.length ps) : (nbs l ps).length = l.length := runM_len h.fits
theorem nbs_perm {l : List Int} {ps : List Nat} (h : Nb l.length ps) : (nbs l ps).Perm l := runM_perm _ _ h.fits
/-- the values ahead of place e, all but the one at place pl, do not rise -/
def Ins (l : List Int) (e pl : Nat) : Prop := ∀ a b, a < b → b ≤ e → b ≠ pl → l.getD b 0 ≤ l.getD a 0
def Down (l : List Int) (e : Nat) : Prop := ∀ a b, a < b → b < e → l.getD b 0 ≤ l.getD a 0
theorem swp_get {l : List Int} {k j : Nat} {x y : Int} (h1 : 1 ≤ k) (h2 : k < l.length) : (swp l k x y).getD j 0 = if j = k then y else if j = k - 1 then x else l.getD j 0 := by
  unfold swp
  simp only [List.getD_eq_getElem?_getD, List.getElem?_set, List.length_set]
  by_cases e1 : k = j
  · subst e1; simp [h2]
  · by_cases e2 : k - 1 = j
    · rw [if_neg e1, if_pos e2, if_pos (by omega), if_neg (Ne.symm e1), if_pos e2.symm]; rfl
    · rw [if_neg e1, if_neg e2, if_neg (Ne.symm e1), if_neg (Ne.symm e2)]
theorem getD_at {l : List Int} {k : Nat} (h : k < l.length) : l[k] = l.getD k 0 := by simp [List.getD, h]
theorem ins_step {l : List Int} {e pl : Nat} (h : Ins l e pl) (h1 : 1 ≤ pl) (h2 : pl < l.length) (h3 : pl ≤ e) (g : l[pl - 1] < l[pl]) : Ins (swp l pl l[pl] l[pl - 1]) e (pl - 1) := fun a b hab hb hne => by
  rw [swp_get h1 h2, swp_get h1 h2]
  rw [getD_at h2, getD_at (show pl - 1 < l.length by omega)] at *
  by_cases e1 : b = pl
  · rw [if_pos e1, if_neg (by omega)]
    split
    · omega
    · exact h a (pl - 1) (by omega) (by omega) (by omega)
  · rw [if_neg e1, if_neg hne]
    split
    · exact h (pl - 1) b (by omega) hb e1
    · split
      · exact h pl b (by omega) hb e1
      · exact h a b hab hb e1
theorem ins_done {l : List Int} {e pl : Nat} (h : Ins l e pl) (h2 : pl < l.length) (h3 : pl ≤ e) (g : pl = 0 ∨ ∃ h0 : 1 ≤ pl, ¬ l[pl - 1] < l[pl]) : Down l (e + 1) := fun a b hab hb => by
  by_cases e1 : b = pl
  · subst e1
    rcases g with g | ⟨h0, g⟩
    · omega
    · rw [getD_at h2, getD_at (show b - 1 < l.length by omega)] at g
      by_cases e2 : a = b - 1
      · rw [e2]; omega
      · have := h a (b - 1) (by omega) (by omega) (by omega)
        omega
  · exact h a b hab (by omega) e1
theorem ins_start {l : List Int} {e : Nat} (h : Down l e) : Ins l e e := fun a b hab hb hne => h a b hab (by omega)
def ascN (n : Nat) : List Int := (List.range n).map fun (i : Nat) => (1 + i : Int)
theorem desc_rev (n : Nat) : desc n = (ascN n).reverse := by
  refine List.ext_getElem (by simp [desc, ascN]) fun k h1 h2 => ?_
  have : k < n := by simpa [desc] using h1
  simp [desc, ascN]
  omega
theorem asc_up : ∀ n, (ascN n).Pairwise (· ≤ ·)
  | 0 => List.Pairwise.nil
  | n + 1 => by
    unfold ascN
    rw [List.range_succ, List.map_append]
    refine List.pairwise_append.mpr ⟨asc_up n, List.pairwise_singleton _ _, fun a ha b hb => ?_⟩
    obtain ⟨i, hi, rfl⟩ := List.mem_map.mp ha
    rw [List.map_singleton, List.mem_singleton] at hb
    have := List.mem_range.mp hi
    omega
theorem down_desc {l : List Int} {n : Nat} (hp : l.Perm (ascN n)) (h : Down l n) : l = desc n := by
  rw [desc_rev]
  have hl : l.length = n := by rw [hp.length_eq]; simp [ascN]
  have e : l.reverse = ascN n := up_unique ((List.reverse_perm l).trans hp) (by
    rw [List.pairwise_reverse, List.pairwise_iff_getElem]
    intro i j hi hj hij
    have := h i j hij (by omega)
    rw [← getD_at hi, ← getD_at hj] at this
    exact this) (asc_up n)
  rw [← e, List.reverse_reverse]
theorem desc_perm (n : Nat) : (desc n).Perm (ascN n) := by rw [desc_rev]; exact List.reverse_perm _
/-- each exchange changes the row at its turn -/
def Liv : List Int → List Nat → Prop
  | _, [] => True
  | l, k :: r => seg l k (k + 1) ≠ l ∧ Liv (seg l k (k + 1)) r
/-- the exchange places as they are found: one value sinks in -/
def bub : Nat → List Int → List Nat → List Int × List Nat
  | 0, l, ps => (l, ps)
  | k + 1, l, ps => if l.getD k 0 < l.getD (k + 1) 0 then bub k (swp l (k + 1) (l.getD (k + 1) 0) (l.getD k 0)) (ps ++ [k + 1]) else (l, ps)
def exU (E : List Int) : Nat → List Int × List Nat
  | 0 => (E, [])
  | i + 1 => bub (1 + i) (exU E i).1 (exU E i).2
def exM (E : List Int) : List Nat := (exU E (E.length - 1)).2.reverse
theorem bub_step {l : List Int} {k : Nat} {ps : List Nat} (h1 : 1 ≤ k) (h2 : k < l.length) (g : l[k - 1] < l[k]) : bub k l ps = bub (k - 1) (swp l k l[k] l[k - 1]) (ps ++ [k]) := by
  obtain ⟨j, rfl⟩ : ∃ j, k = j + 1 := ⟨k - 1, by omega⟩
  have a : l.getD j 0 = l[j] := (getD_at (by omega)).symm
  have b : l.getD (j + 1) 0 = l[j + 1] := (getD_at h2).symm
  rw [bub, a, b]
  exact if_pos g
theorem bub_done {l : List Int} {k : Nat} {ps : List Nat} (h2 : k < l.length) (g : k = 0 ∨ ∃ h0 : 1 ≤ k, ¬ l[k - 1] < l[k]) : bub k l ps = (l, ps) := by
  cases k with
  | zero => rfl
  | succ j =>
    rcases g with g | ⟨_, g⟩
    · omega
    have a : l.getD j 0 = l[j] := (getD_at (by omega)).symm
    have b : l.getD (j + 1) 0 = l[j + 1] := (getD_at h2).symm
    rw [bub, a, b]
    exact if_neg g
/-- a row on its way from an effect back to the descending arrangement -/
def Way (E l : List Int) (ps : List Nat) : Prop := l.Perm E ∧ Nb E.length ps ∧ nbs l ps.reverse = E ∧ Liv l ps.reverse
theorem way_nil (E : List Int) : Way E E [] := ⟨List.Perm.refl _, ⟨fun k hk => (by cases hk), rfl, trivial⟩⟩
theorem way_step {E l : List Int} {ps : List Nat} {k : Nat} (h : Way E l ps) (h1 : 1 ≤ k) (h2 : k < l.length) (g : l[k - 1] < l[k]) : Way E (swp l k l[k] l[k - 1]) (ps ++ [k]) := by
  refine ⟨(swp_perm h1 h2).trans h.1, fun j hj => ?_, ?_, ?_⟩
  · rcases List.mem_append.mp hj with z | z
    · exact h.2.1 j z
    · rw [List.mem_singleton.mp z, ← h.1.length_eq]; exact ⟨h1, h2⟩
  · rw [List.reverse_append]
    show nbs (seg (swp l k l[k] l[k - 1]) k (k + 1)) ps.reverse = E
    rw [nb_back h1 h2 g]
    exact h.2.2.1
  · rw [List.reverse_append]
    show seg (swp l k l[k] l[k - 1]) k (k + 1) ≠ swp l k l[k] l[k - 1] ∧ Liv (seg (swp l k l[k] l[k - 1]) k (k + 1)) ps.reverse
    rw [nb_back h1 h2 g]
    refine ⟨fun e => ?_, h.2.2.2⟩
    have e1 := swp_get (l := l) (k := k) (j := k) (x := l[k]) (y := l[k - 1]) h1 h2
    rw [← e, if_pos rfl, ← getD_at h2] at e1
    omega
/-- what stands for any script with an effect -/
def Stand (E : List Int) (ps : List Nat) : Prop := Nb E.length ps ∧ nbs (desc E.length) ps = E
theorem way_end {E l : List Int} {ps : List Nat} {n : Nat} (h : Way E l ps) (hE : E.Perm (ascN n)) (hd : Down l n) : Stand E ps.reverse := by
  have hn : E.length = n := by rw [hE.length_eq]; simp [ascN]
  refine ⟨fun k hk => h.2.1 k (List.mem_reverse.mp hk), ?_⟩
  rw [hn, ← down_desc (h.1.trans hE) hd]
  exact h.2.2.1
theorem way_liv {E l : List Int} {ps : List Nat} {n : Nat} (h : Way E l ps) (hE : E.Perm (ascN n)) (hd : Down l n) : Liv (desc n) ps.reverse := by
  rw [← down_desc (h.1.trans hE) hd]
  exact h.2.2.2
theorem stand_run {E l : List Int} {ps : List Nat} {cs : List Cmd} (h : Stand E ps) (hl : l.length = E.length) (hc : Fits E.length cs) (he : runM (desc E.length) cs = E) : nbs l ps = runM l cs := by
  refine same_eff (hl ▸ h.1.fits) (hl ▸ hc) ?_
  rw [hl, he]
  exact h.2
end My
namespace My
theorem seg_split {l : List Int} {i j : Nat} (h1 : i ≤ j) (h2 : j ≤ l.length) : ∃ A M B, l = A ++ M ++ B ∧ A.length = i - 1 ∧ M.length = j - (i - 1) ∧ seg l i j = A ++ srt M ++ B := by
  refine ⟨l.take (i - 1), (l.drop (i - 1)).take (j - (i - 1)), l.drop j, ?_, by rw [List.length_take]; omega, by rw [List.length_take, List.length_drop]; omega, rfl⟩
  conv => lhs; rw [← List.take_append_drop (i - 1) l, ← List.take_append_drop (j - (i - 1)) (l.drop (i - 1)), List.drop_drop]
  rw [List.append_assoc, show i - 1 + (j - (i - 1)) = j by omega]
theorem srt_id {l : List Int} (h : l.Pairwise (· ≤ ·)) : srt l = l := (srt_is (List.Perm.refl l) h).symm
theorem seg_app {A M B : List Int} {i j : Nat} (hA : A.length = i - 1) (hM : M.length = j - (i - 1)) (h : i ≤ j) : seg (A ++ M ++ B) i j = A ++ srt M ++ B := by
  unfold seg
  have e1 : (A ++ M ++ B).take (i - 1) = A := by rw [List.append_assoc, ← hA, List.take_left]
  have e2 : (A ++ M ++ B).drop (i - 1) = M ++ B := by rw [List.append_assoc, ← hA, List.drop_left]
  have e3 : (A ++ M ++ B).drop j = B := by rw [show j = (A ++ M).length by rw [List.length_append]; omega, List.drop_left]
  rw [e1, e2, e3, ← hM, List.take_left]
theorem step_twice {l : List Int} {c : Cmd} (h1 : c.1 ≤ c.2) (h2 : c.2 ≤ l.length) : step (step l c) c = step l c := by
  unfold step
  obtain ⟨A, M, B, _, hA, hM, e⟩ := seg_split h1 h2
  rw [e, seg_app hA (by rw [srt_len]; exact hM) h1, srt_id (srt_up M)]
end My
namespace My
def less (x : Int) (l : List Int) : Nat := (l.filter (fun y => decide (y < x))).length
def inv : List Int → Nat
  | [] => 0
  | x :: r => less x r + inv r
theorem less_perm {x : Int} {l m : List Int} (h : l.Perm m) : less x l = less x m := (h.filter _).length_eq
theorem less_cons (x y : Int) (r : List Int) : less x (y :: r) = (if y < x then 1 else 0) + less x r := by
  unfold less
  rw [List.filter_cons]
  by_cases h : y < x <;> simp [h]; omega
theorem inv_sorted : ∀ (s : List Int), s.Pairwise (· ≤ ·) → inv s = 0
  | [], _ => rfl
  | x :: r, h => by
    have h1 := List.pairwise_cons.mp h
    show less x r + inv r = 0
    rw [inv_sorted r h1.2]
    have : less x r = 0 := by
      unfold less
      rw [List.length_eq_zero_iff, List.filter_eq_nil_iff]
      intro y hy
      have := h1.1 y hy
      simp; omega
    omega
def invU (ns : List Int) : Nat → Nat
  | 0 => 0
  | i + 1 => invU ns i + less (ns.getD i 0) (ns.drop (i + 1))
theorem invU_cons (x : Int) (r : List Int) : ∀ i, invU (x :: r) (i + 1) = less x r + invU r i
  | 0 => by simp [invU]
  | i + 1 => by
    rw [invU, invU_cons x r i, invU]
    simp
    omega
theorem invU_all : ∀ ns : List Int, invU ns ns.length = inv ns
  | [] => rfl
  | x :: r => by rw [List.length_cons, invU_cons, invU_all r]; rfl
theorem less_le (x : Int) (l : List Int) : less x l ≤ l.length := List.length_filter_le _ _
theorem inv_le : ∀ ns : List Int, inv ns ≤ ns.length * ns.length
  | [] => Nat.le_refl _
  | x :: r => by
    have h1 := less_le x r
    have ih := inv_le r
    show less x r + inv r ≤ (r.length + 1) * (r.length + 1)
    rw [Nat.add_mul, Nat.mul_add, Nat.one_mul, Nat.mul_one]
    omega
def gt (x : Int) (l : List Int) : Nat := (l.filter (fun y => decide (x < y))).length
theorem inv_snoc (x : Int) : ∀ l : List Int, inv (l ++ [x]) = inv l + gt x l
  | [] => rfl
  | y :: r => by
    show less y (r ++ [x]) + inv (r ++ [x]) = less y r + inv r + gt x (y :: r)
    rw [inv_snoc x r]
    have e1 : less y (r ++ [x]) = less y r + if x < y then 1 else 0 := by
      unfold less
      rw [List.filter_append, List.length_append]
      by_cases h : x < y <;> simp [h]
    have e2 : gt x (y :: r) = (if x < y then 1 else 0) + gt x r := by
      unfold gt
      rw [List.filter_cons]
      by_cases h : x < y <;> simp [h]; omega
    omega
def gts (l : List Int) : Nat → List Int
  | 0 => []
  | i + 1 => gts l i ++ [((gt (l.getD i 0) (l.take i) : Nat) : Int)]
theorem gts_len (l : List Int) : ∀ i, (gts l i).length = i
  | 0 => rfl
  | i + 1 => by rw [gts, List.length_append, gts_len l i]; rfl
theorem gts_sum (l : List Int) : ∀ i, i ≤ l.length → (gts l i).sum = ((inv (l.take i) : Nat) : Int)
  | 0, _ => by simp [gts, inv]
  | i + 1, h => by
    have hi : i < l.length := h
    rw [gts, List.sum_append, gts_sum l i (by omega), List.take_add_one, List.getElem?_eq_getElem hi]
    show _ = ((inv (l.take i ++ [l[i]]) : Nat) : Int)
    rw [inv_snoc, show l.getD i 0 = l[i] by simp [List.getD, hi]]
    simp
theorem gt_less {x : Int} : ∀ {l : List Int}, x ∉ l → gt x l + less x l = l.length
  | [], _ => rfl
  | y :: r, h => by
    have h1 := gt_less (x := x) (l := r) (fun q => h (List.mem_cons_of_mem _ q))
    have h2 : x ≠ y := fun q => h (q ▸ List.mem_cons_self)
    rw [less_cons, List.length_cons]
    have e2 : gt x (y :: r) = (if x < y then 1 else 0) + gt x r := by
      unfold gt
      rw [List.filter_cons]
      by_cases h : x < y <;> simp [h]; omega
    rw [e2]
    by_cases h3 : x < y
    · rw [if_pos h3, if_neg (by omega)]; omega
    · rw [if_neg h3, if_pos (by omega)]; omega
theorem gt_perm {x : Int} {l m : List Int} (h : l.Perm m) : gt x l = gt x m := (h.filter _).length_eq
theorem inv_rev : ∀ l : List Int, l.Nodup → 2 * (inv l.reverse + inv l) + l.length = l.length * l.length
  | [], _ => rfl
  | x :: r, h => by
    have h1 := List.nodup_cons.mp h
    have ih := inv_rev r h1.2
    have g := gt_less h1.1
    rw [List.reverse_cons, inv_snoc, gt_perm (List.reverse_perm r), List.length_cons]
    show 2 * (inv r.reverse + gt x r + (less x r + inv r)) + (r.length + 1) = (r.length + 1) * (r.length + 1)
    have e : (r.length + 1) * (r.length + 1) = r.length * r.length + r.length + r.length + 1 := by rw [Nat.succ_mul, Nat.mul_succ]; omega
    rw [e]
    omega
end My
namespace My
def crs (a b : List Int) : Nat := (a.map fun x => less x b).sum
theorem less_app (x : Int) (a b : List Int) : less x (a ++ b) = less x a + less x b := by unfold less; rw [List.filter_append, List.length_append]
theorem inv_app : ∀ (a b : List Int), inv (a ++ b) = inv a + inv b + crs a b
  | [], b => by simp [inv, crs]
  | x :: r, b => by
    show less x (r ++ b) + inv (r ++ b) = less x r + inv r + inv b + ((less x b) + crs r b)
    rw [less_app, inv_app r b]; omega
theorem crs_right {a b c : List Int} (h : b.Perm c) : crs a b = crs a c := by
  unfold crs
  rw [show (fun x => less x b) = fun x => less x c from funext fun x => less_perm h]
theorem crs_left {a b c : List Int} (h : a.Perm b) : crs a c = crs b c := (h.map _).sum_nat
theorem inv_zero : ∀ {l : List Int}, inv l = 0 → l.Pairwise (· ≤ ·)
  | [], _ => List.Pairwise.nil
  | x :: r, h => by
    have h' : less x r + inv r = 0 := h
    refine List.pairwise_cons.mpr ⟨fun y hy => ?_, inv_zero (by omega)⟩
    have h0 : less x r = 0 := by omega
    unfold less at h0
    rw [List.length_eq_zero_iff, List.filter_eq_nil_iff] at h0
    have := h0 y hy
    simp at this; omega
theorem inv_mid (A M B : List Int) : inv (A ++ srt M ++ B) + inv M = inv (A ++ M ++ B) := by
  have p := srt_perm M
  rw [inv_app, inv_app, inv_app (A ++ M), inv_app A M, crs_right p, crs_left (p.append_left A), inv_sorted _ (srt_up M)]
  omega
theorem step_inv {l : List Int} {c : Cmd} (h1 : c.1 ≤ c.2) (h2 : c.2 ≤ l.length) : inv (step l c) ≤ inv l ∧ (inv (step l c) = inv l → step l c = l) := by
  obtain ⟨A, M, B, e, _, _, e2⟩ := seg_split h1 h2
  unfold step
  rw [e2]
  have k := inv_mid A M B
  rw [← e] at k
  refine ⟨by omega, fun q => ?_⟩
  have z : inv M = 0 := by omega
  rw [srt_id (inv_zero z), ← e]
theorem run_inv : ∀ (cs : List Cmd) (l : List Int), Fits l.length cs → inv (runM l cs) ≤ inv l ∧ (inv (runM l cs) = inv l → runM l cs = l)
  | [], _, _ => ⟨Nat.le_refl _, fun _ => rfl⟩
  | c :: r, l, h => by
    have hc := h c List.mem_cons_self
    have a := step_inv (l := l) hc.2.1 hc.2.2
    have hl : (step l c).length = l.length := seg_len hc.2.1 hc.2.2
    have b := run_inv r (step l c) (by rw [hl]; exact fun d hd => h d (List.mem_cons_of_mem _ hd))
    show inv (runM (step l c) r) ≤ inv l ∧ (inv (runM (step l c) r) = inv l → runM (step l c) r = l)
    refine ⟨by omega, fun q => ?_⟩
    have e1 := a.2 (by omega)
    rw [e1] at b q ⊢
    exact b.2 (by omega)
end My
namespace My
theorem liv_at : ∀ (ps : List Nat) (l : List Int) (i : Nat), Liv l ps → i < ps.length → runM l ((ps.map fun k => (k, k + 1)).take (i + 1)) ≠ runM l ((ps.map fun k => (k, k + 1)).take i)
  | k :: r, l, 0, h, _ => h.1
  | k :: r, l, i + 1, h, hi => liv_at r (seg l k (k + 1)) i h.2 (by simpa using hi)
theorem less_two (x y : Int) : inv [x, y] ≤ 1 := by
  show less x [y] + (less y [] + 0) ≤ 1
  have a := less_le x [y]
  have b := less_le y []
  simp at a b
  omega
theorem swap_inv {l : List Int} {k : Nat} (h1 : 1 ≤ k) (h2 : k < l.length) (h : seg l k (k + 1) ≠ l) : inv (seg l k (k + 1)) + 1 = inv l := by
  obtain ⟨A, M, B, e, hA, hM, e2⟩ := seg_split (l := l) (i := k) (j := k + 1) (by omega) (by omega)
  have kk := inv_mid A M B
  rw [← e, ← e2] at kk
  have z : inv M ≠ 0 := fun z => h (by rw [e2, srt_id (inv_zero z), ← e])
  have o : inv M ≤ 1 := by
    match M, hM with
    | [x, y], _ => exact less_two x y
    | [], hM => simp at hM; omega
    | [x], hM => simp at hM; omega
    | x :: y :: w :: r, hM => simp at hM; omega
  omega
theorem liv_inv : ∀ (ps : List Nat) (l : List Int), Nb l.length ps → Liv l ps → inv (nbs l ps) + ps.length = inv l
  | [], l, _, _ => rfl
  | k :: r, l, hn, h => by
    have hk := hn k List.mem_cons_self
    have a := swap_inv hk.1 hk.2 h.1
    have hl : (seg l k (k + 1)).length = l.length := seg_len (by omega) (by omega)
    have b := liv_inv r (seg l k (k + 1)) (by rw [hl]; exact fun j hj => hn j (List.mem_cons_of_mem _ hj)) h.2
    show inv (nbs (seg l k (k + 1)) r) + (r.length + 1) = inv l
    omega
theorem asc_nodup (n : Nat) : (ascN n).Nodup := by
  have : (desc n).Nodup := by
    unfold desc
    exact List.Pairwise.map _ (fun (a b : Nat) (h : a ≠ b) => show ((n : Int) - (a : Nat)) ≠ ((n : Int) - (b : Nat)) by omega) List.nodup_range
  exact (desc_perm n).nodup_iff.mp this
theorem desc_inv (n : Nat) : 2 * inv (desc n) + n = n * n := by
  have a := inv_rev (ascN n) (asc_nodup n)
  rw [← desc_rev, inv_sorted _ (asc_up n)] at a
  simpa [ascN] using a
/-- the pairs in ascending order -/
def asc : List Int → Nat
  | [] => 0
  | x :: r => gt x r + asc r
/-- the pairs whose earlier place is one of the first so many -/
def ascU (ns : List Int) : Nat → Nat
  | 0 => 0
  | i + 1 => ascU ns i + gt (ns.getD i 0) (ns.drop (i + 1))
theorem ascU_cons (x : Int) (r : List Int) : ∀ i, ascU (x :: r) (i + 1) = gt x r + ascU r i
  | 0 => by unfold ascU; simp [ascU]
  | i + 1 => by
    have := ascU_cons x r i
    show ascU (x :: r) (i + 1) + _ = gt x r + (ascU r i + _)
    rw [this]
    simp [Nat.add_assoc]
theorem ascU_all : ∀ ns : List Int, ascU ns ns.length = asc ns
  | [] => rfl
  | x :: r => by
    show ascU (x :: r) (r.length + 1) = _
    rw [ascU_cons, ascU_all r]; rfl
theorem asc_inv : ∀ l : List Int, l.Nodup → 2 * (asc l + inv l) + l.length = l.length * l.length
  | [], _ => rfl
  | x :: r, h => by
    have h' := List.nodup_cons.mp h
    have a := asc_inv r h'.2
    have b := gt_less h'.1
    show 2 * ((gt x r + asc r) + (less x r + inv r)) + (r.length + 1) = (r.length + 1) * (r.length + 1)
    have e : (r.length + 1) * (r.length + 1) = r.length * r.length + 2 * r.length + 1 := by rw [Nat.mul_add, Nat.add_mul]; omega
    omega
/-- as many as an exchange is needed for -/
theorem asc_count {E : List Int} {n : Nat} {ps : List Nat} (hE : E.Perm (ascN n)) (h : Stand E ps) (hl : Liv (desc n) ps) : ps.length = asc E ∧ 2 * (inv E + ps.length) + n = n * n := by
  have hn : E.length = n := by rw [hE.length_eq]; simp [ascN]
  have a := liv_inv ps (desc n) (by rw [desc_len, ← hn]; exact h.1) hl
  have b := desc_inv n
  have c := asc_inv E (hE.nodup_iff.mpr (asc_nodup n))
  have e := h.2
  rw [hn] at e c
  rw [e] at a
  constructor <;> omega
end My
namespace L15
open PySem PySem.Spec PyProof.Rows L2 Xk
def topS (i : Nat) : Stmt := PySem.Challenge.pw_sortstretches_k15_fewest_exchanges.main.body.getD i (.Pass ⟨0, 0, 0, 0⟩)
abbrev s_check_arrangement : Stmt := topS 4
theorem sc_check_arrangement : FnScope ["row", "seen", "index", "value"] ["row"] (defScope s_check_arrangement) := ⟨rfl, rfl, rfl, by decide +kernel, rfl, by decide +kernel, by decide +kernel⟩
abbrev s_exchange_places : Stmt := topS 6
theorem sc_exchange_places : FnScope ["wanted", "present", "places", "end", "place"] ["wanted"] (defScope s_exchange_places) := ⟨rfl, rfl, rfl, by decide +kernel, rfl, by decide +kernel, by decide +kernel⟩
abbrev s_exchanges : Stmt := topS 8
theorem sc_exchanges : FnScope ["wanted", "place"] ["wanted"] (defScope s_exchanges) := ⟨rfl, rfl, rfl, by decide +kernel, rfl, by decide +kernel, by decide +kernel⟩
abbrev s_law_source : Stmt := topS 10
theorem sc_law_source : FnScope ["script", "mix", "digits", "cell", "span"] ["script"] (defScope s_law_source) := ⟨rfl, rfl, rfl, by decide +kernel, rfl, by decide +kernel, by decide +kernel⟩
abbrev s_law_draw : Stmt := topS 11
theorem sc_law_draw : FnScope ["source", "many", "drawn", "mixed"] ["source", "many"] (defScope s_law_draw) := ⟨rfl, rfl, rfl, by decide +kernel, rfl, by decide +kernel, by decide +kernel⟩
abbrev s_law_after : Stmt := topS 14
theorem sc_law_after : FnScope ["line", "acts", "low", "high"] ["line", "acts"] (defScope s_law_after) := ⟨rfl, rfl, rfl, by decide +kernel, rfl, by decide +kernel, by decide +kernel⟩
abbrev s_law_shuffled : Stmt := topS 15
theorem sc_law_shuffled : FnScope ["source", "size_here", "way", "left", "found", "time", "far", "spot"] ["source", "size_here"] (defScope s_law_shuffled) := ⟨rfl, rfl, rfl, by decide +kernel, rfl, by decide +kernel, by decide +kernel⟩
abbrev s_law_down : Stmt := topS 17
theorem sc_law_down : FnScope ["size_here"] ["size_here"] (defScope s_law_down) := ⟨rfl, rfl, rfl, by decide +kernel, rfl, by decide +kernel, by decide +kernel⟩
abbrev s_law_distances : Stmt := topS 18
theorem sc_law_distances : FnScope ["size_here", "start", "found", "layer", "many", "later", "line", "low", "next_row"] ["size_here"] (defScope s_law_distances) := ⟨rfl, rfl, rfl, by decide +kernel, rfl, by decide +kernel, by decide +kernel⟩
abbrev s_law_right : Stmt := topS 19
theorem sc_law_right : FnScope ["line", "many", "saved", "told", "pair", "again"] ["line", "many"] (defScope s_law_right) := ⟨rfl, rfl, rfl, by decide +kernel, rfl, by decide +kernel, by decide +kernel⟩
abbrev s_law : Stmt := topS 20
theorem sc_law : FnScope ["script", "source", "far", "k", "line", "many", "spot", "value", "other"] ["script"] (defScope s_law) := ⟨rfl, rfl, rfl, by decide +kernel, rfl, by decide +kernel, by decide +kernel⟩
structure Txt (K : PySem.W.Frag) (mg : Str → Option Value) where
  check_arrangement_a : Addr
  check_arrangement_d : FuncData
  check_arrangement_F : Fun K "check_arrangement" "check_arrangement" s_check_arrangement check_arrangement_a check_arrangement_d
  check_arrangement_b : Binds K check_arrangement_d ["row"] []
  check_arrangement_g : mg "check_arrangement" = some (.ref check_arrangement_a)
  exchange_places_a : Addr
  exchange_places_d : FuncData
  exchange_places_F : Fun K "exchange_places" "exchange_places" s_exchange_places exchange_places_a exchange_places_d
  exchange_places_b : Binds K exchange_places_d ["wanted"] []
  exchange_places_g : mg "exchange_places" = some (.ref exchange_places_a)
  exchanges_a : Addr
  exchanges_d : FuncData
  exchanges_F : Fun K "exchanges" "exchanges" s_exchanges exchanges_a exchanges_d
  exchanges_b : Binds K exchanges_d ["wanted"] []
  exchanges_g : mg "exchanges" = some (.ref exchanges_a)
  law_source_a : Addr
  law_source_d : FuncData
  law_source_F : Fun K "_law_source" "_law_source" s_law_source law_source_a law_source_d
  law_source_b : Binds K law_source_d ["script"] []
  law_source_g : mg "_law_source" = some (.ref law_source_a)
  law_draw_a : Addr
  law_draw_d : FuncData
  law_draw_F : Fun K "_law_draw" "_law_draw" s_law_draw law_draw_a law_draw_d
  law_draw_b : Binds K law_draw_d ["source", "many"] []
  law_draw_g : mg "_law_draw" = some (.ref law_draw_a)
  law_after_a : Addr
  law_after_d : FuncData
  law_after_F : Fun K "_law_after" "_law_after" s_law_after law_after_a law_after_d
  law_after_b : Binds K law_after_d ["line", "acts"] []
  law_after_g : mg "_law_after" = some (.ref law_after_a)
  law_shuffled_a : Addr
  law_shuffled_d : FuncData
  law_shuffled_F : Fun K "_law_shuffled" "_law_shuffled" s_law_shuffled law_shuffled_a law_shuffled_d
  law_shuffled_b : Binds K law_shuffled_d ["source", "size_here"] []
  law_shuffled_g : mg "_law_shuffled" = some (.ref law_shuffled_a)
  law_down_a : Addr
  law_down_d : FuncData
  law_down_F : Fun K "_law_down" "_law_down" s_law_down law_down_a law_down_d
  law_down_b : Binds K law_down_d ["size_here"] []
  law_down_g : mg "_law_down" = some (.ref law_down_a)
  law_distances_a : Addr
  law_distances_d : FuncData
  law_distances_F : Fun K "_law_distances" "_law_distances" s_law_distances law_distances_a law_distances_d
  law_distances_b : Binds K law_distances_d ["size_here"] []
  law_distances_g : mg "_law_distances" = some (.ref law_distances_a)
  law_right_a : Addr
  law_right_d : FuncData
  law_right_F : Fun K "_law_right" "_law_right" s_law_right law_right_a law_right_d
  law_right_b : Binds K law_right_d ["line", "many"] []
  law_right_g : mg "_law_right" = some (.ref law_right_a)
  law_a : Addr
  law_d : FuncData
  law_F : Fun K "law" "law" s_law law_a law_d
  law_b : Binds K law_d ["script"] []
  law_g : mg "law" = some (.ref law_a)
  k_exchanges_wanted : KBinds K exchanges_d ["wanted"] ["wanted"] (fun (us ws : List Value) => match us, ws with | [], [w0] => [w0] | _, _ => []) (fun (us ws : List V) => match us, ws with | [], [w0] => [w0] | _, _ => [])
  m_enumerate : mg "enumerate" = none
  m_isinstance : mg "isinstance" = none
  m_len : mg "len" = none
  m_list : mg "list" = none
  m_max : mg "max" = none
  m_min : mg "min" = none
  m_range : mg "range" = none
  m_repr : mg "repr" = none
  m_set : mg "set" = none
  m_sorted : mg "sorted" = none
  m_tuple : mg "tuple" = none
section
variable {P : Program} {w : World} {K : PySem.W.Frag} {mg : Str → Option Value} {base : Heap}
open My
theorem at_tab {n k : Nat} {f : Nat → Int} {z : Int} (e : z = (k : Int)) (h : k < n) : atI ((tab n f).map V.int) z = some (.int (f k)) := at_of e (by rw [List.getElem?_map, tab_get h]; rfl)
open My
/-- at ts stand the commands cs, as tuples -/
structure Cm (H : Hp) (ts : List Addr) (cs : List Cmd) : Prop where
  len : ts.length = cs.length
  at_ : ∀ (i : Nat) (t : Addr), ts[i]? = some t → ∃ c, cs[i]? = some c ∧ H t = some (.tup [.int (c.1 : Nat), .int (c.2 : Nat)])
theorem Cm.same {H H' : Hp} {ts : List Addr} {cs : List Cmd} (h : Cm H ts cs) (s : Same H H') : Cm H' ts cs :=
  ⟨h.len, fun i t e => let ⟨c, e1, e2⟩ := h.at_ i t e; ⟨c, e1, s _ _ e2⟩⟩
theorem Cm.put {H : Hp} {ts : List Addr} {cs : List Cmd} {p : Addr} {xs : List V} {o : HO} (h : Cm H ts cs) (hp : H p = some (.lst xs)) : Cm (upd H p o) ts cs :=
  ⟨h.len, fun i t e => let ⟨c, e1, e2⟩ := h.at_ i t e; ⟨c, e1, upd_to (ne_of e2 hp (by intro z; cases z)) e2⟩⟩
theorem Cm.nil {H : Hp} : Cm H [] [] := ⟨rfl, fun i t e => by simp at e⟩
theorem Cm.snoc {H : Hp} {ts : List Addr} {cs : List Cmd} {t : Addr} {c : Cmd} (h : Cm H ts cs) (e : H t = some (.tup [.int (c.1 : Nat), .int (c.2 : Nat)])) : Cm H (ts ++ [t]) (cs ++ [c]) := by
  refine ⟨by rw [List.length_append, List.length_append, h.len]; rfl, fun i t' e' => ?_⟩
  by_cases q : i < ts.length
  · rw [List.getElem?_append_left q] at e'
    obtain ⟨c', e1, e2⟩ := h.at_ i t' e'
    exact ⟨c', by rw [List.getElem?_append_left (h.len ▸ q)]; exact e1, e2⟩
  · rw [List.getElem?_append_right (by omega)] at e'
    have e3 : i - ts.length = 0 := by
      cases hh : i - ts.length with
      | zero => rfl
      | succ k => rw [hh] at e'; simp at e'
    rw [e3] at e'
    cases e'
    exact ⟨c, by rw [List.getElem?_append_right (by have := h.len; omega), ← h.len, e3]; rfl, e⟩
theorem Cm.idx {H : Hp} {ts : List Addr} {cs : List Cmd} (h : Cm H ts cs) {i : Nat} (hi : i < cs.length) : ∃ t, ts[i]? = some t ∧ H t = some (.tup [.int (cs[i].1 : Nat), .int (cs[i].2 : Nat)]) := by
  have hi' : i < ts.length := by rw [h.len]; exact hi
  obtain ⟨c, e1, e2⟩ := h.at_ i _ (List.getElem?_eq_getElem hi')
  rw [List.getElem?_eq_getElem hi] at e1
  cases e1
  exact ⟨_, List.getElem?_eq_getElem hi', e2⟩
theorem Cm.take {H : Hp} {ts : List Addr} {cs : List Cmd} (h : Cm H ts cs) (k : Nat) : Cm H (ts.take k) (cs.take k) := by
  refine ⟨by rw [List.length_take, List.length_take, h.len], fun i t e => ?_⟩
  rw [List.getElem?_take] at e
  split at e
  · rename_i hk
    obtain ⟨c, e1, e2⟩ := h.at_ i t e
    exact ⟨c, by rw [List.getElem?_take, if_pos hk]; exact e1, e2⟩
  · cases e
theorem Cm.drop {H : Hp} {ts : List Addr} {cs : List Cmd} (h : Cm H ts cs) (k : Nat) : Cm H (ts.drop k) (cs.drop k) := by
  refine ⟨by rw [List.length_drop, List.length_drop, h.len], fun i t e => ?_⟩
  rw [List.getElem?_drop] at e
  obtain ⟨c, e1, e2⟩ := h.at_ _ t e
  exact ⟨c, by rw [List.getElem?_drop]; exact e1, e2⟩
/-! the data of a script -/
def dC1 (c : Cmd) : PyData := .tuple [.int (c.1 : Nat), .int (c.2 : Nat)]
abbrev dC (cs : List Cmd) : PyData := .list (cs.map dC1)
theorem dp_cmAll {K : PySem.W.Frag} {H : Hp} : ∀ {ts : List Addr} {cs : List Cmd}, Cm H ts cs → DpAll K H (ts.map V.ref) (cs.map dC1)
  | [], [], _ => .nil
  | [], _ :: _, h => nomatch h.len
  | _ :: _, [], h => nomatch h.len
  | t :: ts, c :: cs, h => by
    obtain ⟨c', e1, e2⟩ := h.at_ 0 t rfl
    cases e1
    refine .cons (.tup (sqT e2) (.cons (.int _) (.cons (.int _) .nil))) (dp_cmAll ⟨by have := h.len; simpa using this, fun i t' e => ?_⟩)
    exact h.at_ (i + 1) t' e
theorem dp_cm {K : PySem.W.Frag} {H : Hp} {a : Addr} {ts : List Addr} {cs : List Cmd} (h : SqL K H a (ts.map V.ref)) (hc : Cm H ts cs) : Dp K H (.ref a) (dC cs) := .lst h (dp_cmAll hc)
theorem lay_cm : ∀ cs : List Cmd, PyData.canLayAll0 (cs.map dC1) = true
  | [] => rfl
  | _ :: r => lay_cm r
theorem depth_cm : ∀ cs : List Cmd, PyData.depthAll (cs.map dC1) ≤ 1
  | [] => by decide
  | c :: r => by
    have := depth_cm r
    show max 1 (PyData.depthAll (r.map dC1)) ≤ 1
    omega
theorem depth_dC (cs : List Cmd) : (dC cs).depth ≤ 2 := by
  have := depth_cm cs
  show PyData.depthAll (cs.map dC1) + 1 ≤ 2
  omega
theorem shaped_dC (cs : List Cmd) : SeqAt.shaped (dC cs) = true := by
  unfold SeqAt.shaped
  rw [Bool.and_eq_true]
  refine ⟨lay_cm cs, ?_⟩
  have := depth_dC cs
  rw [decide_eq_true_eq]
  omega
theorem shaped_nil : SeqAt.shaped (.list []) = true := rfl
theorem r_neNilC {K : PySem.W.Frag} {H : Hp} {a b : Addr} {ts : List Addr} {cs : List Cmd} {Q : VK} (h : SqL K H a (ts.map V.ref)) (hc : Cm H ts cs) (g : SqL K H b []) (q : Q (.bl (!decide (cs = []))) H) : rNeD K (.ref a) (.ref b) H Q := by
  refine ⟨_, _, dp_cm h hc, .lst g .nil, shaped_dC cs, shaped_nil, ?_⟩
  have e : PyData.eqv (dC cs) (.list []) = decide (cs = []) := by cases cs <;> rfl
  rw [e]; exact q
theorem sh_dC {cs : List Cmd} {n : Nat} (h : ∀ c ∈ cs, c.1 ≤ n ∧ c.2 ≤ n) (hn : n ≤ 100000) : Sh (cs.length * 25 + 2) (dC cs) := by
  have := Sh.list (b := 23) (ds := cs.map dC1) fun d hd => by
    obtain ⟨c, hc, rfl⟩ := List.mem_map.mp hd
    have hb := h c hc
    refine (Sh.tuple (b := 8) fun e he => ?_).mono (by show 2 * (8 + 2) + 3 ≤ 23; decide)
    rcases List.mem_cons.mp he with e1 | e1
    · rw [e1]; exact (Sh.int (k := 7) (by decide) (by omega) (by decide)).mono (by decide)
    · rw [List.mem_singleton.mp e1]; exact (Sh.int (k := 7) (by decide) (by omega) (by decide)).mono (by decide)
  rw [List.length_map] at this
  exact this
def pI (ps : List Nat) : List Int := ps.map fun (k : Nat) => (k : Int)
/-- a row after so many rounds -/
def pwr (ps : List Nat) : Nat → List Int → List Int
  | 0, l => l
  | k + 1, l => pwr ps k (nbs l ps)
theorem pwr_fix {ps : List Nat} {l : List Int} (h : nbs l ps = l) : ∀ k, pwr ps k l = l
  | 0 => rfl
  | k + 1 => by show pwr ps k (nbs l ps) = l; rw [h]; exact pwr_fix h k
def rep (k : Nat) (cs : List Cmd) : List Cmd := (List.replicate k cs).flatten
theorem rep_succ (k : Nat) (cs : List Cmd) : rep (k + 1) cs = cs ++ rep k cs := by unfold rep; rw [List.replicate_succ, List.flatten_cons]
theorem rep_add (j k : Nat) (cs : List Cmd) : rep (j + k) cs = rep j cs ++ rep k cs := by unfold rep; rw [← List.flatten_append, List.replicate_append_replicate]
theorem fits_rep {n : Nat} {cs : List Cmd} (h : Fits n cs) (k : Nat) : Fits n (rep k cs) := fun c hc => by
  obtain ⟨l, h1, h2⟩ := List.mem_flatten.mp hc
  rw [List.eq_of_mem_replicate h1] at h2
  exact h c h2
theorem fits_app {n : Nat} {cs ds : List Cmd} (h : Fits n cs) (g : Fits n ds) : Fits n (cs ++ ds) := fun c hc => by
  rcases List.mem_append.mp hc with z | z
  · exact h c z
  · exact g c z
theorem pwr_run {E : List Int} {ps : List Nat} {cs : List Cmd} (hs : Stand E ps) (hc : Fits E.length cs) (he : runM (desc E.length) cs = E) : ∀ (k : Nat) (l : List Int), l.length = E.length → pwr ps k l = runM l (rep k cs)
  | 0, _, _ => rfl
  | k + 1, l, hl => by
    show pwr ps k (nbs l ps) = _
    rw [stand_run hs hl hc he, pwr_run hs hc he k _ (by rw [runM_len (by rw [hl]; exact hc)]; exact hl), rep_succ, runM_app]
theorem Cm.app {H : Hp} {ts us : List Addr} {cs ds : List Cmd} (h : Cm H ts cs) (g : Cm H us ds) : Cm H (ts ++ us) (cs ++ ds) := by
  refine ⟨by rw [List.length_append, List.length_append, h.len, g.len], fun i p e => ?_⟩
  by_cases q : i < ts.length
  · rw [List.getElem?_append_left q] at e
    obtain ⟨c, e1, e2⟩ := h.at_ i p e
    exact ⟨c, by rw [List.getElem?_append_left (h.len ▸ q)]; exact e1, e2⟩
  · rw [List.getElem?_append_right (by omega)] at e
    obtain ⟨c, e1, e2⟩ := g.at_ _ p e
    exact ⟨c, by rw [List.getElem?_append_right (by have := h.len; omega), ← h.len]; exact e1, e2⟩
theorem Cm.reps {H : Hp} {ts : List Addr} {cs : List Cmd} (h : Cm H ts cs) : ∀ k : Nat, Cm H (List.replicate k ts).flatten (rep k cs)
  | 0 => Cm.nil
  | k + 1 => by rw [List.replicate_succ, List.flatten_cons, rep_succ]; exact h.app (Cm.reps h k)
theorem pI_len (ps : List Nat) : (pI ps).length = ps.length := by simp [pI]
open My
/-- all but r and g kept -/
def Sy (r g : Addr) (H H' : Hp) : Prop := ∀ b o, b ≠ r → b ≠ g → H b = some o → H' b = some o
/-- the source of draws: [digits, left, mix, turn] -/
def Bag (H : Hp) (r g : Addr) (m : Nat) : Prop := ∃ (gs : List Int) (l t b : Int), H r = some (.lst [.ref g, .int l, .int b, .int t]) ∧ H g = some (.lst (gs.map V.int)) ∧ (∀ x ∈ gs, 0 ≤ x) ∧ gs.length ≤ 63 ∧ 0 ≤ l ∧ 0 ≤ t ∧ t ≤ m ∧ 0 ≤ b ∧ b < 2 ^ 61 ∧ r ≠ g
theorem Sy.refl {r g : Addr} {H : Hp} : Sy r g H H := fun _ _ _ _ h => h
theorem Sy.trans {r g : Addr} {H H1 H2 : Hp} (s : Sy r g H H1) (t : Sy r g H1 H2) : Sy r g H H2 := fun b o h1 h2 h => t b o h1 h2 (s b o h1 h2 h)
theorem Sy.same {r g : Addr} {H H1 H2 : Hp} (s : Sy r g H H1) (t : Same H1 H2) : Sy r g H H2 := fun b o h1 h2 h => t b o (s b o h1 h2 h)
theorem Sy.putr {r g : Addr} {H H1 : Hp} {o : HO} (s : Sy r g H H1) : Sy r g H (upd H1 r o) := fun b u h1 h2 h => upd_to h1 (s b u h1 h2 h)
theorem Sy.putg {r g : Addr} {H H1 : Hp} {o : HO} (s : Sy r g H H1) : Sy r g H (upd H1 g o) := fun b u h1 h2 h => upd_to h2 (s b u h1 h2 h)
theorem Bag.same {r g : Addr} {H H' : Hp} {m : Nat} (h : Bag H r g m) (s : Same H H') : Bag H' r g m := by
  obtain ⟨gs, l, t, b, h1, h2, h3⟩ := h
  exact ⟨gs, l, t, b, s _ _ h1, s _ _ h2, h3⟩
theorem Sy.new {r g a : Addr} {H : Hp} {o : HO} (np : H a = none) : Sy r g H (upd H a o) := fun b u _ _ h => upd_old np h
theorem Sy.old {r g a : Addr} {H H0 : Hp} {o : HO} (s : Sy r g H0 H) (n : H0 a = none) : Sy r g H0 (upd H a o) := fun b u h1 h2 h => upd_to (ne_of_none h n) (s b u h1 h2 h)
theorem Bag.ner {H : Hp} {r g p : Addr} {m : Nat} (h : Bag H r g m) (n : H p = none) : p ≠ r ∧ p ≠ g := by
  obtain ⟨gs, l, t, b, h1, h2, _⟩ := h
  exact ⟨(ne_of_none h1 n).symm, (ne_of_none h2 n).symm⟩
theorem Bag.le {H : Hp} {r g : Addr} {m n : Nat} (h : Bag H r g m) (e : m ≤ n) : Bag H r g n := by
  obtain ⟨gs, l, t, b, h1, h2, h3, h4, h5, h6, h7, h8⟩ := h
  exact ⟨gs, l, t, b, h1, h2, h3, h4, h5, h6, by omega, h8⟩
theorem Bag.other {H : Hp} {r g p : Addr} {m : Nat} {o : HO} (h : Bag H r g m) (n : p ≠ r ∧ p ≠ g) : Bag (upd H p o) r g m := by
  obtain ⟨gs, l, t, b, h1, h2, h3⟩ := h
  exact ⟨gs, l, t, b, upd_to n.1.symm h1, upd_to n.2.symm h2, h3⟩
theorem Bag.free {H H' : Hp} {r g p : Addr} {m : Nat} (h : Bag H' r g m) (s : Sy r g H H') (n : H' p = none) : H p = none := by
  have e := h.ner n
  cases q : H p with
  | none => rfl
  | some o => rw [s p o e.1 e.2 q] at n; cases n
theorem Cm.sy {H H' : Hp} {ts : List Addr} {cs : List Cmd} {r g : Addr} {m : Nat} (h : Cm H ts cs) (hR : Bag H r g m) (s : Sy r g H H') : Cm H' ts cs := by
  obtain ⟨gs, l, t, b, h1, h2, _⟩ := hR
  exact ⟨h.len, fun i t e => let ⟨c, e1, e2⟩ := h.at_ i t e; ⟨c, e1, s _ _ (ne_of e2 h1 (by intro z; cases z)) (ne_of e2 h2 (by intro z; cases z)) e2⟩⟩
local macro_rules | `(tactic| fail "one") => `(tactic| with_reducible first | refine Xk.r_par3 ?_ | refine Xk.r_ex3 ?_ | refine Xk.r_isN ?_)
/-- at as stand rows -/
structure Rws (H : Hp) (as : List Addr) (ls : List (List Int)) : Prop where
  len : as.length = ls.length
  at_ : ∀ (i : Nat) (t : Addr), as[i]? = some t → ∃ l, ls[i]? = some l ∧ H t = some (.lst (l.map V.int))
theorem Rws.same {H H' : Hp} {as : List Addr} {ls : List (List Int)} (h : Rws H as ls) (s : Same H H') : Rws H' as ls :=
  ⟨h.len, fun i t e => let ⟨l, e1, e2⟩ := h.at_ i t e; ⟨l, e1, s _ _ e2⟩⟩
theorem Rws.nil {H : Hp} : Rws H [] [] := ⟨rfl, fun i t e => by simp at e⟩
theorem Rws.app {H : Hp} {ts us : List Addr} {cs ds : List (List Int)} (h : Rws H ts cs) (g : Rws H us ds) : Rws H (ts ++ us) (cs ++ ds) := by
  refine ⟨by rw [List.length_append, List.length_append, h.len, g.len], fun i p e => ?_⟩
  by_cases q : i < ts.length
  · rw [List.getElem?_append_left q] at e
    obtain ⟨c, e1, e2⟩ := h.at_ i p e
    exact ⟨c, by rw [List.getElem?_append_left (h.len ▸ q)]; exact e1, e2⟩
  · rw [List.getElem?_append_right (by omega)] at e
    obtain ⟨c, e1, e2⟩ := g.at_ _ p e
    exact ⟨c, by rw [List.getElem?_append_right (by have := h.len; omega), ← h.len]; exact e1, e2⟩
theorem Rws.one {H : Hp} {t : Addr} {l : List Int} (h : H t = some (.lst (l.map V.int))) : Rws H [t] [l] := ⟨rfl, fun i p e => by
  cases i with
  | zero => cases e; exact ⟨l, rfl, h⟩
  | succ i => simp at e⟩
theorem Rws.idx {H : Hp} {as : List Addr} {ls : List (List Int)} (h : Rws H as ls) {i : Nat} (hi : i < ls.length) : ∃ t, as[i]? = some t ∧ H t = some (.lst (ls[i].map V.int)) := by
  have hi' : i < as.length := by rw [h.len]; exact hi
  obtain ⟨c, e1, e2⟩ := h.at_ i _ (List.getElem?_eq_getElem hi')
  rw [List.getElem?_eq_getElem hi] at e1
  cases e1
  exact ⟨_, List.getElem?_eq_getElem hi', e2⟩
/-- kept if all rows are new and only what was there before, or p, is written -/
theorem Rws.upd_ {H : Hp} {as : List Addr} {ls : List (List Int)} {p : Addr} {o : HO} (h : Rws H as ls) (n : p ∉ as) : Rws (upd H p o) as ls :=
  ⟨h.len, fun i t e => let ⟨l, e1, e2⟩ := h.at_ i t e; ⟨l, e1, upd_to (fun q => n (q ▸ List.mem_of_getElem? e)) e2⟩⟩
theorem eqv_cs : ∀ cs ds : List Cmd, PyData.eqvAll (cs.map dC1) (ds.map dC1) = decide (cs = ds)
  | [], [] => rfl
  | [], _ :: _ => rfl
  | _ :: _, [] => rfl
  | c :: r, d :: t => by
    show (((((c.1 : Nat) : Int) == ((d.1 : Nat) : Int)) && ((((c.2 : Nat) : Int) == ((d.2 : Nat) : Int)) && true)) && PyData.eqvAll (r.map dC1) (t.map dC1)) = _
    rw [eqv_cs r t]
    obtain ⟨a, b⟩ := c
    obtain ⟨a', b'⟩ := d
    by_cases e : a = a' <;> by_cases g : b = b' <;> by_cases f : r = t <;> simp [e, g, f] <;> omega
theorem r_eqCs {K : PySem.W.Frag} {H : Hp} {a b : Addr} {ts us : List Addr} {cs ds : List Cmd} {Q : VK} (h : SqL K H a (ts.map V.ref)) (hc : Cm H ts cs) (g : SqL K H b (us.map V.ref)) (gc : Cm H us ds) (q : Q (.bl (decide (cs = ds))) H) : rEqD K (.ref a) (.ref b) H Q :=
  ⟨_, _, dp_cm h hc, dp_cm g gc, shaped_dC cs, shaped_dC ds, by rw [show PyData.eqv (dC cs) (dC ds) = decide (cs = ds) from eqv_cs cs ds]; exact q⟩
theorem r_neCs {K : PySem.W.Frag} {H : Hp} {a b : Addr} {ts us : List Addr} {cs ds : List Cmd} {Q : VK} (h : SqL K H a (ts.map V.ref)) (hc : Cm H ts cs) (g : SqL K H b (us.map V.ref)) (gc : Cm H us ds) (q : Q (.bl (!decide (cs = ds))) H) : rNeD K (.ref a) (.ref b) H Q :=
  ⟨_, _, dp_cm h hc, dp_cm g gc, shaped_dC cs, shaped_dC ds, by rw [show PyData.eqv (dC cs) (dC ds) = decide (cs = ds) from eqv_cs cs ds]; exact q⟩
section keep
variable {K : PySem.W.Frag} {H H' H1 : Hp} {Q : VK} {a b p r g : Addr} {o : HO} {ns : List Int} {m : Nat}
theorem n_sorted (h : SqL K H a (ns.map V.int)) (q : New Q H (.lst ((srt ns).map V.int))) : rSortedI K [.ref a] H Q := ⟨a, ns, rfl, h, fun ns' p hp hu np => by
  have e := srt_is hp hu
  subst e
  exact q p np⟩
theorem Rws.row {as : List Addr} {ls : List (List Int)} (h : Rws H as ls) {i : Nat} {t : Addr} {l : List Int} (e : as[i]? = some t) (g : ls[i]? = some l) : H t = some (.lst (l.map V.int)) := by
  obtain ⟨l', e1, e2⟩ := h.at_ i t e
  rw [g] at e1; cases e1; exact e2
theorem n_reprC {ts : List Addr} {cs : List Cmd} {n : Nat} (h : SqL K H a (ts.map V.ref)) (hc : Cm H ts cs) (hf : Fits n cs) (hn : n ≤ 100000) (hl : cs.length ≤ 600000) (q : Q (.str (dC cs).shown) H) : rReprD K [.ref a] H Q :=
  r_repr (d := dC cs) (dp_cm h hc) (Nat.le_trans (depth_dC cs) (by decide)) (sh_dC (n := n) (fun c hc => by have := hf c hc; omega) hn) (by omega) q
/-- rows written one by one into a new list -/
def RwI (H1 : Hp) (D : Addr) (ms : List (List Int)) (i : Nat) (H : Hp) : Prop := ∃ es : List Addr, es.length = i ∧ H D = some (.lst (es.map V.ref)) ∧ Same H1 H ∧ (∀ t ∈ es, H1 t = none ∧ t ≠ D) ∧ Rws H es (ms.take i)
theorem rwi_nil {D : Addr} {ms : List (List Int)} (nD : H1 D = none) : RwI H1 D ms 0 (upd H1 D (.lst [])) := ⟨[], rfl, upd_same, same_new nD, (fun t ht => by cases ht), Rws.nil⟩
theorem rwi_put {D : Addr} {ms : List (List Int)} {i : Nat} {l : List Int} (h : RwI H1 D ms i H) (nD : H1 D = none) (hl : ms[i]? = some l) (hi : i ≤ 100000) (s : Same H H') (n : H p = none) (hp : H' p = some (.lst (l.map V.int))) :
    ∃ acc, H' D = some (.lst acc) ∧ acc.length < sizeLine ∧ RwI H1 D ms (i + 1) (upd H' D (.lst (acc ++ [.ref p]))) := by
  obtain ⟨es, hel, hD, sk, hfe, hE⟩ := h
  have hi' : i < ms.length := (List.getElem?_eq_some_iff.mp hl).1
  have ei : ms[i] = l := (List.getElem?_eq_some_iff.mp hl).2
  have n5 := sk.free n
  have h5D : p ≠ D := (ne_of_none hD n).symm
  refine ⟨_, s _ _ hD, by rw [List.length_map, hel]; exact size_lt (by omega), es ++ [p], by rw [List.length_append, hel]; rfl, by rw [upd_same]; simp, same_old (sk.trans s) nD, fun t ht => ?_, ?_⟩
  · rcases List.mem_append.mp ht with z | z
    · exact hfe t z
    · rw [List.mem_singleton.mp z]; exact ⟨n5, h5D⟩
  · rw [take_one hi', ei]
    refine (Rws.app (hE.same s) (Rws.one hp)).upd_ fun hm => ?_
    rcases List.mem_append.mp hm with z | z
    · exact (hfe _ z).2 rfl
    · exact h5D (List.mem_singleton.mp z).symm
theorem rwi_end {D : Addr} {ms : List (List Int)} {n : Nat} (h : RwI H1 D ms n H) (e : n = ms.length) : ∃ es : List Addr, H D = some (.lst (es.map V.ref)) ∧ Same H1 H ∧ (∀ t ∈ es, H1 t = none) ∧ Rws H es ms := by
  obtain ⟨es, hel, hD, sk, hfe, hE⟩ := h
  rw [e, List.take_of_length_le (Nat.le_refl _)] at hE
  exact ⟨es, hD, sk, fun t ht => (hfe t ht).1, hE⟩
theorem cm_same {ts : List Addr} {cs : List Cmd} (s : Same H H') (h : Cm H ts cs) : Cm H' ts cs := h.same s
theorem rws_same {as : List Addr} {ls : List (List Int)} (s : Same H H') (h : Rws H as ls) : Rws H' as ls := h.same s
theorem cm_new {ts : List Addr} {cs : List Cmd} (np : H a = none) (h : Cm H ts cs) : Cm (upd H a o) ts cs := h.same (same_new np)
theorem rws_new {as : List Addr} {ls : List (List Int)} (np : H a = none) (h : Rws H as ls) : Rws (upd H a o) as ls := h.same (same_new np)
/-- commands written one by one into a new list -/
def CmI (H1 : Hp) (D : Addr) (ds : List Cmd) (i : Nat) (H : Hp) : Prop := ∃ es : List Addr, es.length = i ∧ H D = some (.lst (es.map V.ref)) ∧ Same H1 H ∧ (∀ t ∈ es, H1 t = none ∧ t ≠ D) ∧ Cm H es (ds.take i)
theorem cmi_nil {D : Addr} {ds : List Cmd} (nD : H1 D = none) : CmI H1 D ds 0 (upd H1 D (.lst [])) := ⟨[], rfl, upd_same, same_new nD, (fun t ht => by cases ht), Cm.nil⟩
theorem cmi_put {D : Addr} {ds : List Cmd} {i : Nat} {c : Cmd} (h : CmI H1 D ds i H) (nD : H1 D = none) (hl : ds[i]? = some c) (hi : i ≤ 100000) (s : Same H H') (n : H p = none) (hp : H' p = some (.tup [.int (c.1 : Nat), .int (c.2 : Nat)])) :
    ∃ acc, H' D = some (.lst acc) ∧ acc.length < sizeLine ∧ CmI H1 D ds (i + 1) (upd H' D (.lst (acc ++ [.ref p]))) := by
  obtain ⟨es, hel, hD, sk, hfe, hE⟩ := h
  have hi' : i < ds.length := (List.getElem?_eq_some_iff.mp hl).1
  have ei : ds[i] = c := (List.getElem?_eq_some_iff.mp hl).2
  have n5 := sk.free n
  have h5D : p ≠ D := (ne_of_none hD n).symm
  refine ⟨_, s _ _ hD, by rw [List.length_map, hel]; exact size_lt (by omega), es ++ [p], by rw [List.length_append, hel]; rfl, by rw [upd_same]; simp, same_old (sk.trans s) nD, fun t ht => ?_, ?_⟩
  · rcases List.mem_append.mp ht with z | z
    · exact hfe t z
    · rw [List.mem_singleton.mp z]; exact ⟨n5, h5D⟩
  · rw [take_one hi', ei]
    exact ((hE.same s).snoc hp).put (s _ _ hD)
theorem cmi_end {D : Addr} {ds : List Cmd} {n : Nat} (h : CmI H1 D ds n H) (e : n = ds.length) : ∃ es : List Addr, H D = some (.lst (es.map V.ref)) ∧ Same H1 H ∧ (∀ t ∈ es, H1 t = none) ∧ Cm H es ds := by
  obtain ⟨es, hel, hD, sk, hfe, hE⟩ := h
  rw [e, List.take_of_length_le (Nat.le_refl _)] at hE
  exact ⟨es, hD, sk, fun t ht => (hfe t ht).1, hE⟩
theorem last_at {as : List Addr} {t : Addr} : atI ((as ++ [t]).map V.ref) (-1) = some (.ref t) := by
  unfold atI ixN
  rw [if_neg (by omega), if_pos (by rw [List.length_map, List.length_append]; simp only [List.length_singleton]; omega)]
  show ((as ++ [t]).map V.ref)[((-1 : Int) + ((as ++ [t]).map V.ref).length).toNat]? = _
  rw [show ((-1 : Int) + (((as ++ [t]).map V.ref).length : Nat)).toNat = as.length by simp; omega]
  simp
theorem last_ix {as : List Addr} {t : Addr} : ixN ((as ++ [t]).map V.ref).length (-1) = some as.length := by
  unfold ixN
  rw [if_neg (by omega), if_pos (by rw [List.length_map, List.length_append]; simp only [List.length_singleton]; omega)]
  exact congrArg some (by simp; omega)
theorem last_set {as : List Addr} {t u : Addr} : ((as ++ [t]).map V.ref).set as.length (.ref u) = (as ++ [u]).map V.ref := by simp
end keep
local macro_rules | `(tactic| fail "kp") => `(tactic| with_reducible first
  | (apply cm_same; assumption; fail "kp")
  | (apply rws_same; assumption; fail "kp")
  | (apply cm_new; assumption; fail "kp")
  | (apply rws_new; assumption; fail "kp"))
/-- it stood not before -/
local macro_rules | `(tactic| fail "kpz") => `(tactic| with_reducible first
  | assumption
  | (apply L2.Same.free; assumption; fail "kpz"))
open My
theorem rep_one (cs : List Cmd) : rep 1 cs = cs := by unfold rep; simp
theorem run_rep_succ (l : List Int) (k : Nat) (cs : List Cmd) : runM l (rep (k + 1) cs) = runM (runM l (rep k cs)) cs := by rw [rep_add, runM_app, rep_one]
theorem run_rep_fix {l : List Int} {cs : List Cmd} (h : runM l cs = l) : ∀ k, runM l (rep k cs) = l
  | 0 => rfl
  | k + 1 => by rw [run_rep_succ, run_rep_fix h k, h]
theorem rep_fits_len {n : Nat} {cs : List Cmd} (h : Fits n cs) (k : Nat) : (runM (desc n) (rep k cs)).length = n := by
  rw [runM_len (by rw [desc_len]; exact fits_rep h k), desc_len]
theorem rg_ascN (n : Nat) : rgV 1 ((n : Int) + 1) = (ascN n).map V.int := by
  unfold rgV ascN
  rw [List.map_map, show ((n : Int) + 1 - 1).toNat = n by omega]
  rfl
theorem gone {H H' : Hp} {p : Addr} (s : Same H H') (h : H' p = none) : H p = none := by
  cases e : H p with
  | none => rfl
  | some u => rw [s _ _ e] at h; cases h
/-- the rows at some addresses, as tuples -/
def Tps (H : Hp) (as : List Addr) (ls : List (List Int)) : Prop := as.length = ls.length ∧ ∀ (i : Nat) (t : Addr), as[i]? = some t → ∃ l, ls[i]? = some l ∧ H t = some (.tup (l.map V.int))
theorem Tps.same {H H' : Hp} {as : List Addr} {ls : List (List Int)} (h : Tps H as ls) (s : Same H H') : Tps H' as ls := ⟨h.1, fun i t e => let ⟨l, e1, e2⟩ := h.2 i t e; ⟨l, e1, s _ _ e2⟩⟩
theorem Tps.put {H : Hp} {as : List Addr} {ls : List (List Int)} {p : Addr} {o u : HO} (h : Tps H as ls) (hp : H p = some u) (hu : ∀ xs, u ≠ .tup xs) : Tps (upd H p o) as ls :=
  ⟨h.1, fun i t e => let ⟨l, e1, e2⟩ := h.2 i t e; ⟨l, e1, upd_to (ne_of e2 hp (fun z => hu _ z.symm)) e2⟩⟩
theorem Tps.snoc {H : Hp} {as : List Addr} {ls : List (List Int)} {t : Addr} {l : List Int} (h : Tps H as ls) (g : H t = some (.tup (l.map V.int))) : Tps H (as ++ [t]) (ls ++ [l]) := by
  refine ⟨by rw [List.length_append, List.length_append, h.1]; rfl, fun i u e => ?_⟩
  by_cases q : i < as.length
  · rw [List.getElem?_append_left q] at e
    obtain ⟨x, e1, e2⟩ := h.2 i u e
    exact ⟨x, by rw [List.getElem?_append_left (by rw [← h.1]; exact q)]; exact e1, e2⟩
  · rw [List.getElem?_append_right (by omega)] at e
    have e0 : i - as.length = 0 := by
      cases z : i - as.length with
      | zero => rfl
      | succ k => rw [z] at e; simp at e
    rw [e0] at e; cases e
    exact ⟨l, by rw [List.getElem?_append_right (by rw [← h.1]; omega), ← h.1, e0]; rfl, g⟩
def dTl (ls : List (List Int)) : List PyData := ls.map fun l => .tuple (l.map .int)
theorem dTl_dp {K : PySem.W.Frag} {H : Hp} : ∀ {as : List Addr} {ls : List (List Int)}, Tps H as ls → DpAll K H (as.map V.ref) (dTl ls)
  | [], [], _ => .nil
  | [], _ :: _, h => nomatch h.1
  | _ :: _, [], h => nomatch h.1
  | t :: as, l :: ls, h => by
    obtain ⟨c', e1, e2⟩ := h.2 0 t rfl
    cases e1
    refine .cons (.tup (sqT e2) ?_) (dTl_dp ⟨by have := h.1; simpa using this, fun i t' e => h.2 (i + 1) t' e⟩)
    have : ∀ m : List Int, DpAll K H (m.map V.int) (m.map PyData.int) := fun m => by
      induction m with
      | nil => exact .nil
      | cons x r ih => exact .cons (.int x) ih
    exact this l
theorem dTl_lay : ∀ ls : List (List Int), PyData.canLayAll0 (dTl ls) = true
  | [] => rfl
  | l :: r => by
    show (PyData.canLayAll0 (l.map PyData.int) && PyData.canLayAll0 (dTl r)) = true
    rw [lay_ints, dTl_lay r]; rfl
theorem dTl_depth : ∀ ls : List (List Int), PyData.depthAll (dTl ls) ≤ 1
  | [] => Nat.zero_le _
  | l :: r => by
    show max (PyData.depthAll (l.map PyData.int) + 1) (PyData.depthAll (dTl r)) ≤ 1
    have := dTl_depth r
    rw [depth_ints]; omega
theorem dTl_shaped (ls : List (List Int)) : SeqAt.shaped (.list (dTl ls)) = true := by
  unfold SeqAt.shaped
  rw [Bool.and_eq_true]
  refine ⟨dTl_lay ls, ?_⟩
  have := dTl_depth ls
  show decide (PyData.depthAll (dTl ls) + 1 ≤ 64) = true
  rw [decide_eq_true_eq]; omega
theorem r_neTps {K : PySem.W.Frag} {H : Hp} {Q : VK} {a b : Addr} {as : List Addr} {ls : List (List Int)} (h : SqL K H a (as.map V.ref)) (ht : Tps H as ls) (g : SqL K H b []) (q : Q (.bl (!decide (ls = []))) H) : rNeD K (.ref a) (.ref b) H Q :=
  ⟨_, _, .lst h (dTl_dp ht), .lst g .nil, dTl_shaped ls, (by decide), by
    have : PyData.eqv (.list (dTl ls)) (.list []) = decide (ls = []) := by cases ls <;> rfl
    rw [this]; exact q⟩
theorem n_tupOf {K : PySem.W.Frag} {H : Hp} {Q : VK} {p : Addr} {xs : List V} (h : SqL K H p xs) (q : New Q H (.tup xs)) : rTupOf K [.ref p] H Q := ⟨p, xs, rfl, .inl ⟨h, q⟩⟩
theorem n_listOf2 {K : PySem.W.Frag} {H : Hp} {Q : VK} {p : Addr} {xs : List V} (h : SqL K H p xs ∨ SqT K H p xs) (q : New Q H (.lst xs)) : rListOf K [.ref p] H Q := ⟨p, xs, rfl, h, q⟩
theorem cut_m1 (xs : List V) : cutV xs none (some (-1)) = xs.take (xs.length - 1) := by
  unfold cutV
  have h : HT.sIx xs.length xs.length (some (-1)) = xs.length - 1 := by
    show (if (-1 : Int) < 0 then ((-1 : Int) + (xs.length : Int)).toNat else min (-1 : Int).toNat xs.length) = _
    rw [if_pos (by decide)]
    omega
  rw [HT.sIx_none, h, List.drop_zero, Nat.sub_zero]
theorem n_reprL {K : PySem.W.Frag} {H : Hp} {a : Addr} {ns : List Int} {Q : VK} (h : SqL K H a (ns.map V.int)) (hz : ns.length ≤ 1000) (hb : ∀ i ∈ ns, i.natAbs < 10 ^ 300) (q : Q (.str (dI ns).shown) H) : rReprD K [.ref a] H Q :=
  r_repr (dp_lst h) (depth_dI ns) (Sh.ints (k := 300) (by decide) (by decide) hb) (by have : ns.length * (300 + 3) ≤ 1000 * 303 := Nat.mul_le_mul hz (Nat.le_refl _); omega) q
theorem r_eqCm {K : PySem.W.Frag} {H : Hp} {a b : Addr} {ts us : List Addr} {cs ds : List Cmd} {Q : VK} (h : SqL K H a (ts.map V.ref)) (hc : Cm H ts cs) (g : SqL K H b (us.map V.ref)) (gc : Cm H us ds) (q : Q (.bl (decide (cs = ds))) H) : rEqD K (.ref a) (.ref b) H Q :=
  ⟨_, _, dp_cm h hc, dp_cm g gc, shaped_dC cs, shaped_dC ds, by rw [show PyData.eqv (dC cs) (dC ds) = decide (cs = ds) from eqv_cs cs ds]; exact q⟩
abbrev Fd := List (List Int × Nat)
def fkv (F : Fd) : List (List L2.Key × V) := F.map fun p => (p.1.map Sum.inl, V.int (p.2 : Int))
theorem key_v (l : List Int) : (l.map (Sum.inl : Int → L2.Key)).map kV = l.map V.int := by rw [List.map_map]; rfl
/-- all rows found are arrangements, and so far away -/
def Gd (n : Nat) (F : Fd) : Prop := ∀ x ∈ F, x.1.Perm (ascN n) ∧ x.2 + inv x.1 = inv (desc n)
theorem step_two {x : List Int} {n p : Nat} (h : x.Perm (ascN n)) (h1 : 1 ≤ p) (h2 : p < n) : step x (p, p + 1) = x ∨ inv (step x (p, p + 1)) + 1 = inv x := by
  have hl : x.length = n := by rw [h.length_eq]; simp [ascN]
  by_cases e : seg x p (p + 1) = x
  · exact .inl e
  · exact .inr (swap_inv h1 (by omega) e)
/-- what is so ahead of each round -/
def Wd (n T : Nat) (t0 pd : Addr) (H : Hp) (w : Nat) (σ' : L2.St) (G : Hp) : Prop := ∃ (pl : Addr) (mm : Nat) (F : Fd) (as : List Addr) (rows : List (List Int)) (y5 y6 y7 y8 : Option V), σ' = [some (.int (n : Int)), some (.ref t0), some (.ref pd), some (.ref pl), some (.int (mm : Int)), y5, y6, y7, y8] ∧ Same H G ∧ G pd = some (.dT (fkv F)) ∧ Gd n F ∧ G pl = some (.lst (as.map V.ref)) ∧ pl ≠ pd ∧ Tps G as rows ∧ (∀ x ∈ rows, x.Perm (ascN n) ∧ mm + inv x = T) ∧ rows.length ≤ 4 ^ mm ∧ F.length ≤ 2 * 4 ^ mm ∧ w + mm = T + 1 ∧ (∀ x ∈ rows, (valV (fkv F) (x.map Sum.inl)).isSome = true)
theorem valV_none {F : Fd} {y : List Int} {d : Nat} (h : valV (fkv F) (y.map Sum.inl) = none) : putK (fkv F) (y.map Sum.inl) (V.int (d : Int)) = fkv (F ++ [(y, d)]) := by
  rw [putK_new _ h]
  unfold fkv
  rw [List.map_append]; rfl
theorem inl_inj : ∀ {a b : List Int}, a.map (Sum.inl : Int → L2.Key) = b.map Sum.inl → a = b
  | [], [], _ => rfl
  | [], _ :: _, h => by cases h
  | _ :: _, [], h => by cases h
  | x :: r, y :: t, h => by
    rw [List.map_cons, List.map_cons] at h
    injection h with h1 h2
    injection h1 with h3
    rw [h3, inl_inj h2]
theorem new_key {F : Fd} {y : List Int} {d : Nat} (h : valV (fkv F) (y.map Sum.inl) = none) : (valV (fkv (F ++ [(y, d)])) (y.map Sum.inl)).isSome = true := by
  have e : fkv (F ++ [(y, d)]) = fkv F ++ [(y.map Sum.inl, V.int (d : Int))] := by unfold fkv; rw [List.map_append]; rfl
  rw [e, valV_snoc _ _ _ _ h, if_pos rfl]; rfl
theorem keep_key {F : Fd} {y : List Int} {d : Nat} {k : List L2.Key} (h : valV (fkv F) (y.map Sum.inl) = none) (g : (valV (fkv F) k).isSome = true) : (valV (fkv (F ++ [(y, d)])) k).isSome = true := by
  have e : fkv (F ++ [(y, d)]) = fkv F ++ [(y.map Sum.inl, V.int (d : Int))] := by unfold fkv; rw [List.map_append]; rfl
  rw [e, valV_snoc _ _ _ _ h]
  split
  · rfl
  · exact g
def sp_check_arrangement (K : PySem.W.Frag) : Sp := fun vs H Q _ => ∃ (a : Addr) (ns : List Int), vs = [.ref a] ∧ SqL K H a (ns.map V.int) ∧ IsArr ns ∧ ns.length ≤ 1000 ∧ ∀ H', Same H H' → Q .non H'
theorem ok_check_arrangement (T : Txt K mg) : FnG P w K mg base CX0 1 T.check_arrangement_a T.check_arrangement_d ["row"] (sp_check_arrangement K) := by
  refine okG T.check_arrangement_F sc_check_arrangement (fun vs H Q E h => ?_) (fun cdv A ou t H vs Q E hG hr h => ?_)
  · obtain ⟨_, _, rfl, _⟩ := h; rfl
  have nd := sc_check_arrangement.nd
  obtain ⟨a, ns, rfl, hS, hA, hlen, q⟩ := h
  refine ⟨_, (pss_cons (sset 1 nd (pe_callTy0 cr_set0 (by rfl) T.m_set (by decide +kernel)))
      (pss_one (ps_for PassesOwn.never rfl (pi_enumK K (by rfl) T.m_enumerate (pa_cons (pv 0) pa_nil)) (pg_tupK K 2 rfl (pgs_cons (gset 2 nd) (pgs_cons (gset 3 nd) pgs_nil)))
        (pss_cons (ps_if (PW.pt (pw_or (pt_cmpR op_lt (pv 3) pe_int (nomark _)) (pw_or (pt_cmpR op_gt (pv 3) (pe_callB (lenK K) (by rfl) T.m_len PySem.boot_len (pa_cons (pv 0) pa_nil)) (nomark _)) (pw_or1 (pt_cmpR or_sin (pv 3) (pv 1) (by rfl))))))
        (pss_one ps_never)
        pss_nil)
      (pss_one (ps_expr (pe_sadd (pv 1) (pa_cons (pv 3) pa_nil)))))))), ?_⟩
  fail "g"
  refine r_set0 fun p np => ?_
  have s1 := same_new (o := SetO w p (fun _ => false) 0) np
  have hS1 := s1.seq hS
  fail "g"
  refine ⟨a, _, rfl, hS1, ?_⟩
  refine forEI (walk_enum (xs := ns.map V.int)) (fun i σ' H' => ∃ (S : Int → Bool) (n : Nat) (y2 y3 : Option V), σ' = [some (.ref a), some (.ref p), y2, y3] ∧ Same H H' ∧ H' p = some (SetO w p S n) ∧ n ≤ i ∧ ∀ v, S v = true → v ∈ ns.take i)
    ⟨fun _ => false, 0, none, none, rfl, s1, upd_same, Nat.le_refl _, fun v hv => by cases hv⟩ (fun i σ' H' _ p => ?_) (fun i σ' H' T1 hi p' nT => ?_) (fun σ' H' p' => ?_)
  · obtain ⟨_, _, _, _, _, s, _⟩ := p; exact s.seq hS
  · obtain ⟨S, n, y2, y3, rfl, s, hP, hn, hin⟩ := p'
    have s2 := s.trans (same_new (o := .tup [.int (i : Nat), .int ns[i]]) nT)
    have hS2 := s2.seq hS
    have hP2 := upd_old (o := .tup [.int (i : Nat), .int ns[i]]) nT hP
    have hv := hA.2 ns[i] (List.getElem_mem hi)
    fail "g"
    refine r_itDF (by omega) ?_
    fail "g"
    refine r_itDF (by rw [List.length_map]; omega) ?_
    fail "g"
    refine r_sin hP2 ?_
    have hno : S ns[i] = false := by
      cases h : S ns[i] with
      | false => rfl
      | true =>
        have h1 := hin _ h
        have h2 := hA.1
        rw [← List.take_append_drop i ns, List.nodup_append] at h2
        rw [List.drop_eq_getElem_cons hi] at h2
        exact absurd rfl (h2.2.2 _ h1 _ List.mem_cons_self)
    rw [hno]
    fail "g"
    refine ⟨⟨p, S, n, rfl, hP2⟩, ?_⟩
    fail "g"
    refine r_sadd hP2 (by omega) ?_
    fail "g"
    refine ⟨_, _, _, _, rfl, same_old s2 np, upd_same, by split <;> omega, fun v hv => ?_⟩
    rw [take_one hi]
    rcases Bool.or_eq_true_iff.mp hv with h | h
    · exact List.mem_append_left _ (hin v h)
    · rw [of_decide_eq_true h]; exact List.mem_append_right _ List.mem_cons_self
  · obtain ⟨S, n, y2, y3, rfl, s, hP, hn, hin⟩ := p'
    fail "g"
    exact q _ s
def sp_exchange_places (K : PySem.W.Frag) : Sp := fun vs H Q _ => ∃ (a : Addr) (E : List Int) (n : Nat), vs = [.ref a] ∧ SqL K H a (E.map V.int) ∧ E.Perm (ascN n) ∧ n ≤ 1000 ∧
  ∀ (H' : Hp) (p : Addr) (ps : List Nat), Same H H' → H p = none → H' p = some (.lst ((pI ps).map V.int)) → Stand E ps → Liv (desc n) ps → ps = exM E → Q (.ref p) H'
theorem ok_exchange_places (T : Txt K mg) : FnG P w K mg base CX0 1 T.exchange_places_a T.exchange_places_d ["wanted"] (sp_exchange_places K) := by
  refine okG T.exchange_places_F sc_exchange_places (fun vs H Q E h => ?_) (fun cdv A ou t H vs Q E hG hr h => ?_)
  · obtain ⟨_, _, _, rfl, _⟩ := h; rfl
  have nd := sc_exchange_places.nd
  obtain ⟨a, E, n, rfl, hS, hE, hn, q⟩ := h
  refine ⟨_, (pss_cons (sset 1 nd (pe_callTy (listK K) (by rfl) T.m_list (by decide +kernel) (pa_cons (pv 0) pa_nil)))
      (pss_cons (sset 2 nd (pe_lst pa_nil))
      (pss_cons (ps_for PassesOwn.never rfl (pi_range2 (by rfl) T.m_range (pa_cons pe_int (pa_cons (pe_callB (lenK K) (by rfl) T.m_len PySem.boot_len (pa_cons (pv 1) pa_nil)) pa_nil))) (gset 3 nd)
        (pss_cons (sset 4 nd (pv 3))
      (pss_one (ps_while PassesOwn.never (PW.pt (pw_and (pt_cmpR op_gt (pv 4) pe_int (nomark _)) (pw_and1 (pt_cmpR op_lt (pe_ix (ix_listK K) (pv 1) (pe_op op_sub (pv 4) pe_int) (fun _ _ => rfl)) (pe_ix (ix_listK K) (pv 1) (pv 4) (fun _ _ => rfl)) (nomark _)))))
        (pss_cons (ps_asg (pe_tup (pa_cons (pe_ix (ix_listK K) (pv 1) (pv 4) (fun _ _ => rfl)) (pa_cons (pe_ix (ix_listK K) (pv 1) (pe_op op_sub (pv 4) pe_int) (fun _ _ => rfl)) pa_nil))) (pg_tupK K 2 rfl (pgs_cons (pg_sub (pv 1) (pe_op op_sub (pv 4) pe_int) set_list) (pgs_cons (pg_sub (pv 1) (pv 4) set_list) pgs_nil))))
      (pss_cons (ps_expr (pe_bmK K PySem.F.plainAttrs_list PySem.F.slot_list_append PySem.F.type_list_append mt_append (pv 2) (pa_cons (pv 4) pa_nil)))
      (pss_one (saug 4 nd pe_int ip_sub))))))))
      (pss_one (ps_ret (pe_revLK K (pv 2))))))), ?_⟩
  have hEl : E.length = n := by rw [hE.length_eq]; simp [ascN]
  fail "g"
  intro p np
  fail "g"
  intro z nz
  have sZ := (same_new (o := .lst (E.map V.int)) np).trans (same_new (o := .lst []) nz)
  have hz0 : H z = none := (same_new (o := .lst (E.map V.int)) np).free nz
  have hpz : p ≠ z := ne_of_none upd_same nz
  have hp0 := upd_old (o := .lst []) nz (upd_same (H := H) (a := p) (o := .lst (E.map V.int)))
  fail "g"
  rw [List.length_map, hEl]
  refine ⟨⟨by omega, by omega, by omega, by omega⟩, ?_⟩
  refine forF walk_range (fun i σ' H' => ∃ (l : List Int) (ps : List Nat) (y3 y4 : Option V), σ' = [some (.ref a), some (.ref p), some (.ref z), y3, y4] ∧ Same H H' ∧ H' p = some (.lst (l.map V.int)) ∧ H' z = some (.lst ((pI ps).map V.int)) ∧ Way E l ps ∧ Down l (1 + i) ∧ ps.length ≤ i * 1000 ∧ exU E i = (l, ps))
    ⟨E, [], none, none, rfl, sZ, hp0, upd_same, way_nil E, (fun a b h1 h2 => by omega), by simp, rfl⟩ (fun _ _ _ _ _ => trivial) (fun i σ' H' hi p' => ?_) (fun σ' H' p' => ?_)
  · obtain ⟨l, ps, y3, y4, rfl, s, hP, hZ, hW, hD, hlen, hx⟩ := p'
    have hb0 : bub (1 + i) l ps = exU E (i + 1) := by rw [exU, hx]
    have he : (1 + (i : Int)) = ((1 + i : Nat) : Int) := by omega
    have hie : 1 + i < n := by omega
    rw [he]
    generalize hE1 : 1 + i = e at he hD hie hb0 ⊢
    fail "g"
    refine r_while (fun k σ' H' => ∃ (l : List Int) (ps : List Nat), σ' = [some (.ref a), some (.ref p), some (.ref z), some (.int (e : Int)), some (.int (k : Int))] ∧ Same H H' ∧ H' p = some (.lst (l.map V.int)) ∧ H' z = some (.lst ((pI ps).map V.int)) ∧ Way E l ps ∧ Ins l e k ∧ k ≤ e ∧ ps.length + k ≤ i * 1000 + e ∧ bub k l ps = exU E (i + 1)) e
      ⟨l, ps, rfl, s, hP, hZ, hW, ins_start hD, Nat.le_refl _, by omega, hb0⟩ (fun k σ' H' p' => ?_)
    clear hP hZ hW hD hlen s hx hb0
    obtain ⟨l, ps, rfl, s, hP, hZ, hW, hI, hk, hlen, hb⟩ := p'
    have hll : l.length = n := hW.1.length_eq.trans hEl
    fail "g"
    refine r_dec (fun h0 => ?_) (fun h0 => ?_)
    · have h1 : 1 ≤ k := by omega
      fail "g"
      refine r_ixL (sq hP) (at_map (ns := l) (j := k - 1) (by omega) (by omega)) ?_
      fail "g"
      refine r_ixL (sq hP) (at_map (ns := l) (j := k) rfl (by omega)) ?_
      fail "g"
      refine r_dec (fun h => ?_) (fun h => ?_)
      · refine r_turn ?_
        fail "g"
        refine r_ixL (sq hP) (at_map (ns := l) (j := k) rfl (by omega)) ?_
        fail "g"
        refine r_ixL (sq hP) (at_map (ns := l) (j := k - 1) (by omega) (by omega)) ?_
        fail "g"
        intro T nT
        fail "g"
        have hP8 := upd_old (o := .tup [.int l[k], .int l[k - 1]]) nT hP
        have hZ8 := upd_old (o := .tup [.int l[k], .int l[k - 1]]) nT hZ
        refine r_setL hP8 (n := k - 1) (ix_of (by omega) (by rw [List.length_map]; omega)) ?_
        fail "g"
        refine r_setL upd_same (n := k) (ix_of rfl (by rw [List.length_set, List.length_map]; omega)) ?_
        rw [map_set', map_set']
        have hZ9 := upd_to (o := .lst (((l.set (k - 1) l[k]).set k l[k - 1]).map V.int)) (Ne.symm hpz) (upd_to (o := .lst ((l.set (k - 1) l[k]).map V.int)) (Ne.symm hpz) hZ8)
        fail "g"
        refine r_append hZ9 (by rw [List.length_map, pI_len]; exact size_lt (by omega)) ?_
        have hfin : ∀ Hh : Hp, Hh p = some (.lst (((l.set (k - 1) l[k]).set k l[k - 1]).map V.int)) → upd Hh z (.lst ((pI ps).map V.int ++ [.int (k : Int)])) p = some (.lst ((swp l k l[k] l[k - 1]).map V.int)) := fun Hh h => upd_to hpz h
        fail "g"
        refine ⟨k - 1, by omega, swp l k l[k] l[k - 1], ps ++ [k], by rw [show ((k : Int) - 1) = ((k - 1 : Nat) : Int) by omega]; rfl, same_old (same_old (same_old (s.trans (same_new nT)) np) np) hz0, hfin _ upd_same, by rw [upd_same]; simp [pI], way_step hW h1 (by omega) h, ins_step hI h1 (by omega) hk h, by omega, by rw [List.length_append]; show ps.length + 1 + (k - 1) ≤ _; omega, by rw [← bub_step h1 (by omega) h]; exact hb⟩
      · fail "g"
        exact ⟨l, ps, _, _, rfl, s, hP, hZ, hW, (by have := ins_done hI (by omega) hk (Or.inr ⟨h1, h⟩); rwa [show 1 + (i + 1) = e + 1 by omega]), by omega, by rw [← hb, bub_done (by omega) (Or.inr ⟨h1, h⟩)]⟩
    · fail "g"
      exact ⟨l, ps, _, _, rfl, s, hP, hZ, hW, (by have := ins_done hI (by omega) hk (Or.inl (by omega)); rwa [show 1 + (i + 1) = e + 1 by omega]), by omega, by rw [← hb, bub_done (by omega) (Or.inl (by omega))]⟩
  · obtain ⟨l, ps, y3, y4, rfl, s, hP, hZ, hW, hD, hlen, hx⟩ := p'
    fail "g"
    intro p5 n5
    rw [← List.map_reverse] at *
    have e : (pI ps).reverse = pI ps.reverse := by simp [pI]
    rw [e]
    exact q _ p5 ps.reverse (s.trans (same_new n5)) (s.free n5) upd_same (way_end hW hE fun a b h1 h2 => hD a b h1 (by omega)) (way_liv hW hE fun a b h1 h2 => hD a b h1 (by omega)) (by unfold exM; rw [show E.length - 1 = ((n : Int) - 1).toNat by omega, hx])
def sp_law_source (K : PySem.W.Frag) : Sp := fun vs H Q _ => ∃ (a : Addr) (ns : List Int), vs = [.ref a] ∧ SqL K H a (ns.map V.int) ∧ ns.length ≤ 63 ∧ ∀ H' r g, Same H H' → H r = none → H g = none → Bag H' r g 0 → Q (.ref r) H'
theorem ok_law_source (T : Txt K mg) : FnG P w K mg base CX0 1 T.law_source_a T.law_source_d ["script"] (sp_law_source K) := by
  refine okG T.law_source_F sc_law_source (fun vs H Q E h => ?_) (fun cdv A ou t H vs Q E hG hr h => ?_)
  · obtain ⟨_, _, rfl, _⟩ := h; rfl
  have nd := sc_law_source.nd
  obtain ⟨a, ns, rfl, hS, hlen, q⟩ := h
  refine ⟨_, (pss_cons (sset 1 nd pe_int)
      (pss_cons (sset 2 nd (pe_lst pa_nil))
      (pss_cons (ps_for PassesOwn.never rfl (pi_listK K (pv 0)) (gset 3 nd)
        (pss_cons (sset 1 nd (pe_op op_mod (pe_op op_add (pe_op op_mulW (pv 1) pe_int) (pv 3)) (pe_op op_sub (pe_op op_powW pe_int pe_int) pe_int)))
      (pss_cons (sset 4 nd (pe_callB (call_max2 rfl) (by rfl) T.m_max (by decide +kernel) (pa_cons (pv 3) (pa_cons (pe_op op_sub pe_int (pv 3)) pa_nil))))
      (pss_one (ps_if (pt_cmpR op_ge (pv 4) (pe_op op_powW pe_int pe_int) (nomark _))
        (pss_one (ps_expr (pe_bmK K PySem.F.plainAttrs_list PySem.F.slot_list_append PySem.F.type_list_append mt_append (pv 2) (pa_cons (pe_op op_sub (pv 4) (pe_op op_powW pe_int pe_int)) pa_nil))))
        pss_nil)))))
      (pss_one (ps_ret (pe_lst (pa_cons (pv 2) (pa_cons pe_int (pa_cons (pv 1) (pa_cons pe_int pa_nil)))))))))), ?_⟩
  fail "g"
  intro g ng
  have s1 := same_new (o := .lst []) ng
  have hS1 := s1.seq hS
  fail "g"
  refine forAI (walk_list (xs := ns.map V.int)) (fun i σ' H' => ∃ (b : Int) (gs : List Int) (y3 y4 : Option V), σ' = [some (.ref a), some (.int b), some (.ref g), y3, y4] ∧ Same H H' ∧ H' g = some (.lst (gs.map V.int)) ∧ (∀ x ∈ gs, 0 ≤ x) ∧ gs.length ≤ i ∧ 0 ≤ b ∧ b < 2 ^ 61)
    ⟨_, [], none, none, rfl, s1, upd_same, (fun x hx => by cases hx), Nat.le_refl _, by decide, by decide⟩ (fun i σ' H' _ p => ?_) (fun i σ' H' hi p' => ?_) (fun σ' H' p' => ?_)
  · obtain ⟨_, _, _, _, _, s, _⟩ := p; exact s.seq hS
  · obtain ⟨b, gs, y3, y4, rfl, s, hG', hpos, hgl, hb0, hb1⟩ := p'
    fail "g"
    refine r_I (wide_mul (a := 61) (b := 20) (by omega) (by decide) (by decide) (by decide) (by decide)) ?_
    fail "g"
    generalize hM : (2 : Int) ^ Int.toNat 61 - 1 = M
    have hM' : M = 2305843009213693951 := by rw [← hM]; decide
    subst hM'
    fail "g"
    generalize hb' : (b * 1000033 + ns[i]) % 2305843009213693951 = b'
    have hb0' : 0 ≤ b' := by omega
    have hb1' : b' < 2 ^ 61 := by omega
    refine r_dec (fun h => ?_) (fun h => ?_)
    · fail "g"
      have hx : 0 ≤ (if 0 - ns[i] > ns[i] then 0 - ns[i] else ns[i]) - 10 ^ Int.toNat 18 := by omega
      refine r_append hG' (by rw [List.length_map]; exact size_lt (by omega)) ?_
      rw [map_snoc]
      fail "g"
      refine ⟨b', gs ++ [_], _, _, rfl, same_old s ng, upd_same, fun y hy => ?_, by rw [List.length_append]; show _ + 1 ≤ _; omega, hb0', hb1'⟩
      rcases List.mem_append.mp hy with z | z
      · exact hpos y z
      · rw [List.mem_singleton.mp z]; exact hx
    · fail "g"
      exact ⟨b', gs, _, _, rfl, s, hG', hpos, by omega, hb0', hb1'⟩
  · obtain ⟨b, gs, y3, y4, rfl, s, hG', hpos, hgl, hb0, hb1⟩ := p'
    rw [List.length_map] at hgl
    fail "g"
    intro r nr
    have hr0 := s.free nr
    refine q _ r g (same_old s hr0) hr0 ng ⟨gs, 0, 0, b, upd_same, upd_old nr hG', hpos, by omega, by decide, by decide, by decide, hb0, hb1, (ne_of_none hG' nr).symm⟩
def sp_law_draw (K : PySem.W.Frag) : Sp := fun vs H Q _ => ∃ (r g : Addr) (many : Int) (m : Nat), vs = [.ref r, .int many] ∧ Bag H r g m ∧ m < 2 ^ 60 ∧ 0 < many ∧ many < 2 ^ 200 ∧
  ∀ H' d, 0 ≤ d → d < many → Sy r g H H' → Bag H' r g (m + 1) → Q (.int d) H'
theorem ok_law_draw (T : Txt K mg) : FnG P w K mg base CX0 1 T.law_draw_a T.law_draw_d ["source", "many"] (sp_law_draw K) := by
  refine okG T.law_draw_F sc_law_draw (fun vs H Q E h => ?_) (fun cdv A ou t H vs Q E hG hr h => ?_)
  · obtain ⟨_, _, _, _, rfl, _⟩ := h; rfl
  have nd := sc_law_draw.nd
  obtain ⟨r, g, many, m, rfl, ⟨gs0, l0, t0, b0, hb⟩, hm, hm0, hm1, q⟩ := h
  refine ⟨_, (C8.pss_cut (ps_while PassesOwn.never (PW.pt (pw_and (pt_cmpR op_lt (pe_ix (ix_listK K) (pv 0) pe_int (fun _ _ => rfl)) pe_int (nomark _)) (pw_and1 (pt_cmpR (neDK K hr.units) (pe_ix (ix_listK K) (pv 0) pe_int (fun _ _ => rfl)) (pe_lst pa_nil) (nomark _)))))
        (pss_one (ps_asg (pe_bmK K PySem.F.plainAttrs_list PySem.F.slot_list_pop PySem.F.type_list_pop mt_popAt (pe_ix (ix_listK K) (pv 0) pe_int (fun _ _ => rfl)) (pa_cons pe_int pa_nil)) (pg_sub (pv 0) pe_int set_list))))
      (pss_cons (ps_if (pt_cmpR op_ge (pe_ix (ix_listK K) (pv 0) pe_int (fun _ _ => rfl)) pe_int (nomark _))
        (pss_cons (sset 2 nd (pe_op op_mod (pe_ix (ix_listK K) (pv 0) pe_int (fun _ _ => rfl)) (pv 1)))
      (pss_cons (ps_asg (pe_op op_fdivW (pe_ix (ix_listK K) (pv 0) pe_int (fun _ _ => rfl)) (pv 1)) (pg_sub (pv 0) pe_int set_list))
      (pss_one (ps_ret (pv 2)))))
        pss_nil)
      (pss_cons (ps_asg (pe_op op_add (pe_ix (ix_listK K) (pv 0) pe_int (fun _ _ => rfl)) pe_int) (pg_sub (pv 0) pe_int set_list))
      (pss_cons (sset 3 nd (pe_op op_mulW (pe_op op_add (pe_ix (ix_listK K) (pv 0) pe_int (fun _ _ => rfl)) pe_int) (pe_op op_powW (pe_op op_add (pe_ix (ix_listK K) (pv 0) pe_int (fun _ _ => rfl)) pe_int) pe_int)))
      (pss_cons (sset 3 nd (pe_op op_mod (pe_op op_add (pv 3) (pe_op op_mulW pe_int (pe_ix (ix_listK K) (pv 0) pe_int (fun _ _ => rfl)))) (pe_op op_sub (pe_op op_powW pe_int pe_int) pe_int)))
      (pss_one (ps_ret (pe_op op_mod (pe_op op_fdivW (pe_op op_mod (pe_op op_powW (pv 3) pe_int) (pe_op op_add (pe_op op_powW pe_int pe_int) pe_int)) pe_int) (pv 1))))))))), ?_⟩
  fail "g"
  refine r_cut (fun σ' H' => ∃ (gs : List Int) (l t b : Int), σ' = [some (.ref r), some (.int many), none, none] ∧ Sy r g H H' ∧ H' r = some (.lst [.ref g, .int l, .int b, .int t]) ∧ H' g = some (.lst (gs.map V.int)) ∧ (∀ x ∈ gs, 0 ≤ x) ∧ gs.length ≤ 63 ∧ 0 ≤ l ∧ 0 ≤ t ∧ t ≤ m ∧ 0 ≤ b ∧ b < 2 ^ 61 ∧ r ≠ g) ?_ (fun σ' H' p => ?_)
  · refine r_while (fun k σ' H' => ∃ (gs : List Int) (l t b : Int), σ' = [some (.ref r), some (.int many), none, none] ∧ k = gs.length ∧ Sy r g H H' ∧ H' r = some (.lst [.ref g, .int l, .int b, .int t]) ∧ H' g = some (.lst (gs.map V.int)) ∧ (∀ x ∈ gs, 0 ≤ x) ∧ gs.length ≤ 63 ∧ 0 ≤ l ∧ 0 ≤ t ∧ t ≤ m ∧ 0 ≤ b ∧ b < 2 ^ 61 ∧ r ≠ g) gs0.length ?_ (fun k σ' H' p => ?_)
    · exact ⟨gs0, l0, t0, b0, rfl, rfl, Sy.refl, hb⟩
    · obtain ⟨gs, l, t, b, rfl, rfl, s, hr', hg, hpos, hgl, hl0, ht0, htm, hb0, hb1, hrg⟩ := p
      fail "g"
      refine r_dec (fun h1 => ?_) (fun h1 => ?_)
      · fail "g"
        intro e0 ne
        have hg' := upd_old (o := .lst []) ne hg
        have hr2 := upd_old (o := .lst []) ne hr'
        have se : Sy r g H (upd H' e0 (.lst [])) := s.same (same_new ne)
        have he' := upd_same (H := H') (a := e0) (o := .lst [])
        generalize upd H' e0 (.lst []) = He at hg' hr2 se he' ⊢
        refine r_neL (ms := []) (sq hg') (sq he') ?_
        fail "g"
        refine r_ndec (fun h => r_turn ?_) (fun h => ?_)
        · have hp0 : 0 < gs.length := List.length_pos_iff.mpr h
          fail "g"
          refine r_popAt (k := 0) hg' rfl (y := .int gs[0]) (by simp [hp0]) (by omega) ?_
          rw [erase_map]
          have hr3 : (upd He g (.lst ((gs.eraseIdx 0).map V.int))) r = _ := upd_to hrg hr2
          fail "g"
          refine ⟨(gs.eraseIdx 0).length, by rw [List.length_eraseIdx_of_lt hp0]; omega, gs.eraseIdx 0, gs[0], t, b, rfl, rfl, se.putg.putr, upd_same, upd_to (Ne.symm hrg) upd_same, (fun x hx => hpos x (List.mem_of_mem_eraseIdx hx)), by rw [List.length_eraseIdx]; split <;> omega, hpos _ (List.getElem_mem hp0), ht0, htm, hb0, hb1, hrg⟩
        · fail "g"
          exact ⟨gs, l, t, b, rfl, se, hr2, hg', hpos, hgl, hl0, ht0, htm, hb0, hb1, hrg⟩
      · fail "g"
        exact ⟨gs, l, t, b, rfl, s, hr', hg, hpos, hgl, hl0, ht0, htm, hb0, hb1, hrg⟩
  · obtain ⟨gs, l, t, b, rfl, s, hr', hg, hpos, hgl, hl0, ht0, htm, hb0, hb1, hrg⟩ := p
    fail "g"
    refine r_dec (fun h1 => ?_) (fun h1 => ?_)
    · fail "g"
      refine r_I (wide_div hm0 (b := 200) (by omega) (by decide) (by decide)) ?_
      fail "g"
      exact q _ _ (Int.emod_nonneg _ (by omega)) (Int.emod_lt_of_pos _ hm0) s.putr ⟨gs, _, t, b, upd_same, upd_to (Ne.symm hrg) hg, hpos, hgl, Int.ediv_nonneg hl0 (by omega), ht0, by omega, hb0, hb1, hrg⟩
    · fail "g"
      have hg' : (upd H' r (.lst [.ref g, .int l, .int b, .int (t + 1)])) g = _ := upd_to (Ne.symm hrg) hg
      have hr2 := upd_same (H := H') (a := r) (o := .lst [.ref g, .int l, .int b, .int (t + 1)])
      have s2 : Sy r g H (upd H' r (.lst [.ref g, .int l, .int b, .int (t + 1)])) := s.putr
      have eS : ([.ref g, .int l, .int b, .int t] : List V).set (Int.toNat 3) (.int (t + 1)) = [.ref g, .int l, .int b, .int (t + 1)] := rfl
      rw [eS]
      generalize upd H' r (.lst [.ref g, .int l, .int b, .int (t + 1)]) = H2 at hg' hr2 s2 ⊢
      refine r_I (powW (n := 61) (by omega) (by decide) (by decide) (by decide)) ?_
      have hT : ((t + 1 + 3) ^ Int.toNat 3).natAbs < 2 ^ 183 := by
        rw [Int.natAbs_pow]; exact Nat.lt_of_lt_of_le (Nat.pow_lt_pow_left (show (t + 1 + 3).natAbs < 2 ^ 61 by omega) (by decide)) (by decide)
      refine r_I (wide_mul (a := 62) (b := 183) (by omega) hT (by decide) (by decide) (by decide)) ?_
      fail "g"
      refine r_I (wide_mul (a := 20) (b := 62) (by decide) (by omega) (by decide) (by decide) (by decide)) ?_
      fail "g"
      have hx := Int.emod_lt_of_pos ((b + 7) * (t + 1 + 3) ^ Int.toNat 3 + 1000081 * (t + 1)) (show (0 : Int) < 2 ^ Int.toNat 61 - 1 by decide)
      have hx0 := Int.emod_nonneg ((b + 7) * (t + 1 + 3) ^ Int.toNat 3 + 1000081 * (t + 1)) (show (2 ^ Int.toNat 61 - 1 : Int) ≠ 0 by decide)
      generalize ((b + 7) * (t + 1 + 3) ^ Int.toNat 3 + 1000081 * (t + 1)) % (2 ^ Int.toNat 61 - 1) = x at hx hx0 ⊢
      rw [show (2 : Int) ^ Int.toNat 61 - 1 = 2305843009213693951 by decide] at hx
      refine r_I (pow5 (n := 61) (by omega) (by decide) (by decide) (by decide)) ?_
      fail "g"
      refine r_I (wide_div (by decide) (b := 10) (by decide) (by decide) (by decide)) ?_
      fail "g"
      exact q _ _ (Int.emod_nonneg _ (by omega)) (Int.emod_lt_of_pos _ hm0) s2 ⟨gs, _, _, b, hr2, hg', hpos, hgl, hl0, by omega, by omega, hb0, hb1, hrg⟩
def sp_law_after (K : PySem.W.Frag) : Sp := fun vs H Q _ => ∃ (a b : Addr) (ns : List Int) (ts : List Addr) (cs : List Cmd), vs = [.ref a, .ref b] ∧ (SqL K H a (ns.map V.int) ∨ SqT K H a (ns.map V.int)) ∧ SqL K H b (ts.map V.ref) ∧ Cm H ts cs ∧ ns.length ≤ 1000 ∧ Fits ns.length cs ∧
  ∀ (H' : Hp) (p : Addr), Same H H' → H p = none → H' p = some (.lst ((runM ns cs).map V.int)) → Q (.ref p) H'
theorem ok_law_after (T : Txt K mg) : FnG P w K mg base CX0 1 T.law_after_a T.law_after_d ["line", "acts"] (sp_law_after K) := by
  refine okG T.law_after_F sc_law_after (fun vs H Q E h => ?_) (fun cdv A ou t H vs Q E hG hr h => ?_)
  · obtain ⟨_, _, _, _, _, rfl, _⟩ := h; rfl
  have nd := sc_law_after.nd
  obtain ⟨a, b, ns, ts, cs, rfl, hS, hB, hC, hn2, hF, q⟩ := h
  refine ⟨_, (pss_cons (sset 0 nd (pe_callTy (listK K) (by rfl) T.m_list (by decide +kernel) (pa_cons (pv 0) pa_nil)))
      (pss_cons (ps_for PassesOwn.never rfl (pi_listK K (pv 1)) (pg_tupK K 2 rfl (pgs_cons (gset 2 nd) (pgs_cons (gset 3 nd) pgs_nil)))
        (pss_one (sset 0 nd (pe_op op_cat (pe_op op_cat (pe_slice (sl_listK K) (pv 0) po_none (po_some (pe_op op_sub (pv 2) pe_int))) (pe_callB (sortedK K) (by rfl) T.m_sorted (by decide +kernel) (pa_cons (pe_slice (sl_listK K) (pv 0) (po_some (pe_op op_sub (pv 2) pe_int)) (po_some (pv 3))) pa_nil))) (pe_slice (sl_listK K) (pv 0) (po_some (pv 3)) po_none)))))
      (pss_one (ps_ret (pv 0))))), ?_⟩
  fail "ww"
  refine n_listOf2 hS (new_ fun p H1 np s1 hp => ?_)
  fail "ww"
  refine forA (walk_list (xs := ts.map V.ref)) (fun i σ' G => ∃ (p : Addr) (y2 y3 : Option V), σ' = [some (.ref p), some (.ref b), y2, y3] ∧ Same H G ∧ H p = none ∧ G p = some (.lst ((runM ns (cs.take i)).map V.int)))
    ⟨p, none, none, rfl, s1, np, hp⟩ (fun i σ' G _ p' => ?_) (fun i σ' G hi p' => ?_) (fun σ' G p' => ?_)
  · obtain ⟨_, _, _, _, s, _⟩ := p'; exact s.seq hB
  · obtain ⟨p, y2, y3, rfl, s, hp0, hP⟩ := p'
    have hi' : i < cs.length := by rw [← hC.len]; simpa using hi
    obtain ⟨t0, et, ht⟩ := hC.idx hi'
    have e1 : (ts.map V.ref)[i] = .ref t0 := by
      have : (ts.map V.ref)[i]? = some (.ref t0) := by rw [List.getElem?_map, et]; rfl
      rw [List.getElem?_eq_getElem hi] at this
      exact Option.some.inj this
    rw [e1]
    have hc := hF cs[i] (List.getElem_mem hi')
    have hrl : (runM ns (cs.take i)).length = ns.length := runM_len hF.take
    rw [take_one hi', runM_snoc]
    generalize runM ns (cs.take i) = L at hP hrl ⊢
    generalize cs[i] = c at hc ht ⊢
    refine r_gtup (sqT (s _ _ ht)) rfl ?_
    fail "ww"
    refine n_slT (sq hP) (a := c.1 - 1) (by omega) (new_ fun q1 G1 m1 t1 g1 => ?_)
    fail "ww"
    refine n_slM (ns := L) (a := c.1 - 1) (c := c.2) (sq (t1 _ _ hP)) (by omega) rfl (new_ fun q2 G2 m2 t2 g2 => ?_)
    fail "ww"
    refine n_sorted (sq g2) (new_ fun q3 G3 m3 t3 g3 => ?_)
    have t13 := t1.trans (t2.trans t3)
    refine n_catI ((t2.trans t3) _ _ g1) g3 (by rw [srt_len, List.length_take, List.length_take, List.length_drop]; exact size_le (by omega)) (new_ fun q4 G4 m4 t4 g4 => ?_)
    fail "ww"
    refine n_slF (sq ((t13.trans t4) _ _ hP)) (a := c.2) rfl (new_ fun q5 G5 m5 t5 g5 => ?_)
    refine n_catI (t5 _ _ g4) g5 (by rw [List.length_append, srt_len, List.length_take, List.length_take, List.length_drop, List.length_drop]; exact size_le (by omega)) (new_ fun q6 G6 m6 t6 g6 => ?_)
    have u := s.trans ((t13.trans t4).trans t5)
    exact ⟨q6, _, _, rfl, u.trans t6, u.free m6, g6⟩
  · obtain ⟨p, y2, y3, rfl, s, hp0, hP⟩ := p'
    fail "ww"
    rw [List.take_of_length_le (by rw [List.length_map, hC.len]; exact Nat.le_refl _)] at hP
    exact q _ _ s hp0 hP
def sp_law_down (K : PySem.W.Frag) : Sp := fun vs H Q _ => ∃ (n : Nat), vs = [.int n] ∧ n ≤ 1000 ∧ ∀ (H' : Hp) (p : Addr), Same H H' → H p = none → H' p = some (.lst ((desc n).map V.int)) → Q (.ref p) H'
theorem ok_law_down (T : Txt K mg) : FnG P w K mg base CX0 1 T.law_down_a T.law_down_d ["size_here"] (sp_law_down K) := by
  refine okG T.law_down_F sc_law_down (fun vs H Q E h => ?_) (fun cdv A ou t H vs Q E hG hr h => ?_)
  · obtain ⟨_, rfl, _⟩ := h; rfl
  have nd := sc_law_down.nd
  obtain ⟨n, rfl, hn, q⟩ := h
  refine ⟨_, (pss_one (ps_ret (pe_listRg3 rfl (by rfl) T.m_list (by rfl) T.m_range (pa_cons (pv 0) (pa_cons pe_int (pa_cons (pe_un un_neg pe_int) pa_nil)))))), ?_⟩
  fail "g"
  refine ⟨_, _, _, _, rfl, RgC.neg (by omega) (by omega) (by omega) (by omega), by omega, fun p np => ?_⟩
  refine q _ p (same_new np) np (upd_same.trans ?_)
  have e : rg3V (n : Int) (-1) ((n : Int) - 0).toNat = (desc n).map V.int := by
    rw [show ((n : Int) - 0).toNat = n by omega]
    unfold rg3V desc
    rw [List.map_map]
    refine List.map_congr_left fun k _ => ?_
    show V.int ((n : Int) + (k : Nat) * (-1)) = V.int ((n : Int) - (k : Nat))
    rw [show ((n : Int) + (k : Nat) * (-1)) = (n : Int) - (k : Nat) by omega]
  rw [e]
def sp_exchanges (K : PySem.W.Frag) : Sp := fun vs H Q _ => ∃ (a : Addr) (E : List Int), vs = [.ref a] ∧ SqL K H a (E.map V.int) ∧ E.Perm (ascN E.length) ∧ 1 ≤ E.length ∧ E.length ≤ 1000 ∧
  ∀ (H' : Hp) (p : Addr) (ts : List Addr) (ps : List Nat), Same H H' → H p = none → (∀ t ∈ ts, H t = none) → H' p = some (.lst (ts.map V.ref)) → Cm H' ts (ps.map fun k => (k, k + 1)) → Stand E ps → Liv (desc E.length) ps → ps.length ≤ 1000000 → ps = exM E → Q (.ref p) H'
theorem ok_exchanges (T : Txt K mg) : FnG P w K mg base CX0 2 T.exchanges_a T.exchanges_d ["wanted"] (sp_exchanges K) := by
  refine okG T.exchanges_F sc_exchanges (fun vs H Q E h => ?_) (fun cdv A ou t H vs Q E hG hr h => ?_)
  · obtain ⟨_, _, rfl, _⟩ := h; rfl
  have nd := sc_exchanges.nd
  obtain ⟨a, E, rfl, hA, hE, hn, hn2, q⟩ := h
  refine ⟨_, (pss_cons (ps_expr (pe_callG (ok_check_arrangement T) hG (hr.mono (by decide)) (by rfl) T.check_arrangement_g T.check_arrangement_F.kp T.check_arrangement_b .nil pass0 (pa_cons (pv 0) pa_nil)))
      (pss_one (ps_ret (pe_lc (own := [("place", 1)]) (hc := rfl) (hN := nd) (hi := (pi_listK K (pe_callG (ok_exchange_places T) hG (hr.mono (by decide)) (by rfl) T.exchange_places_g T.exchange_places_F.kp T.exchange_places_b .nil pass0 (pa_cons (pv 0) pa_nil)))) (ok := blkOk_by (by rfl)) (hg := fun _ _ _ _ _ => (gset 1 nd)) (ht := (fun _ _ _ _ _ => pts_nil)) (he := fun _ _ _ _ _ => (pe_tup (pa_cons (pv 1) (pa_cons (pe_op op_add (pv 1) pe_int) pa_nil)))))))), ?_⟩
  fail "g"
  refine ⟨a, E, rfl, hA, arr_asc hE, by omega, fun H1 s1 => ?_⟩
  fail "g"
  refine ⟨a, E, E.length, rfl, s1.seq hA, hE, hn2, fun H2 z ps s2 nz hZ hSt hLv hEx => ?_⟩
  fail "g"
  intro D nD
  have hcnt := (asc_count hE hSt hLv).2
  have hsq : E.length * E.length ≤ 1000 * 1000 := Nat.mul_le_mul hn2 hn2
  have hpl : ps.length ≤ 1000000 := by omega
  refine lc_it (walk_list (xs := (pI ps).map V.int)) (fun i Hx => ∃ ts : List Addr, Same H2 Hx ∧ Hx D = some (.lst (ts.map V.ref)) ∧ Cm Hx ts ((ps.take i).map fun k => (k, k + 1)) ∧ ∀ t ∈ ts, H2 t = none ∧ t ≠ D)
    ⟨[], same_new nD, upd_same, Cm.nil, fun t ht => by cases ht⟩ (fun i Hx _ p => ?_) (fun i x HA HB hi p y => ?_) (fun HA p => ?_)
  · obtain ⟨_, s, _⟩ := p; exact s.seq (sq hZ)
  · obtain ⟨ts, s, hD, hC, hf⟩ := p
    obtain ⟨rfl, e⟩ := y
    have hi' : i < ps.length := by simpa [pI] using hi
    simp only [pI, List.getElem?_map, List.getElem?_eq_getElem hi'] at e
    cases e
    fail "g"
    refine ⟨rfl, ?_⟩
    fail "g"
    intro T1 nT1
    have hT1 : HB T1 = none := nT1
    have hD1 := upd_old (o := .tup [.int (ps[i] : Nat), .int ((ps[i] : Nat) + 1 : Int)]) nT1 hD
    have hl : ts.length = i := by rw [hC.len, List.length_map, List.length_take]; omega
    refine ⟨_, hD1, by rw [List.length_map, hl]; exact size_lt (by omega), ts ++ [T1], same_old (s.trans (same_new nT1)) nD, by rw [upd_same, List.map_append]; rfl, ?_, fun t ht => ?_⟩
    · rw [take_one hi', List.map_append]
      refine ((hC.same (same_new nT1)).put hD1).snoc ?_
      exact upd_to (ne_of_none hD hT1).symm upd_same
    · rcases List.mem_append.mp ht with h | h
      · exact hf t h
      · rw [List.mem_singleton.mp h]
        exact ⟨gone s hT1, (ne_of_none hD hT1).symm⟩
  · obtain ⟨ts, s, hD, hC, hf⟩ := p
    rw [List.length_map, pI_len, List.take_of_length_le (Nat.le_refl _)] at hC
    exact q HA D ts ps ((s1.trans s2).trans s) (gone (s1.trans s2) nD) (fun t ht => gone (s1.trans s2) (hf t ht).1) hD hC hSt hLv hpl hEx
def sp_law_shuffled (K : PySem.W.Frag) : Sp := fun vs H Q _ => ∃ (r g : Addr) (wide m : Nat), vs = [.ref r, .int wide] ∧ Bag H r g m ∧ wide ≤ 1000 ∧ m < 2 ^ 50 ∧
  ∀ (H' : Hp) (p : Addr) (l : List Int), Sy r g H H' → H p = none → Bag H' r g (m + wide + 1) → H' p = some (.lst (l.map V.int)) → l.Perm (ascN wide) → Q (.ref p) H'
theorem ok_law_shuffled (T : Txt K mg) : FnG P w K mg base CX0 2 T.law_shuffled_a T.law_shuffled_d ["source", "size_here"] (sp_law_shuffled K) := by
  refine okG T.law_shuffled_F sc_law_shuffled (fun vs H Q E h => ?_) (fun cdv A ou t H vs Q E hG hr h => ?_)
  · obtain ⟨_, _, _, _, rfl, _⟩ := h; rfl
  have nd := sc_law_shuffled.nd
  obtain ⟨r, g, wide, m, rfl, hR, hw, hm, q⟩ := h
  refine ⟨_, (pss_cons (ps_par3 (i := 2) (j := 3) (l := 4) (by rfl) nd rfl rfl rfl (by decide) (by decide) (by decide) rfl rfl rfl (pa_cons (pe_callG (ok_law_draw T) hG (hr.mono (by decide)) (by rfl) T.law_draw_g T.law_draw_F.kp T.law_draw_b .nil pass0 (pa_cons (pv 0) (pa_cons pe_int pa_nil))) (pa_cons (pe_listRg rfl (by rfl) T.m_list (prg_2 (by rfl) T.m_range pe_int (pe_op op_add (pv 1) pe_int))) (pa_cons (pe_lst pa_nil) pa_nil))) (by rfl))
      (pss_cons (ps_for PassesOwn.never rfl (pi_range1 (by rfl) T.m_range (pa_cons (pv 1) pa_nil)) (gset 5 nd)
        (pss_cons (sset 6 nd (pe_ix (ix_listK K) (pe_lst (pa_cons (pe_callB (lenK K) (by rfl) T.m_len PySem.boot_len (pa_cons (pv 3) pa_nil)) (pa_cons (pe_callB (call_min2 rfl) (by rfl) T.m_min (by decide +kernel) (pa_cons pe_int (pa_cons (pe_callB (lenK K) (by rfl) T.m_len PySem.boot_len (pa_cons (pv 3) pa_nil)) pa_nil))) (pa_cons (pe_callB (lenK K) (by rfl) T.m_len PySem.boot_len (pa_cons (pv 3) pa_nil)) (pa_cons pe_int pa_nil))))) (pv 2) (fun _ _ => rfl)))
      (pss_cons (sset 7 nd (pe_callG (ok_law_draw T) hG (hr.mono (by decide)) (by rfl) T.law_draw_g T.law_draw_F.kp T.law_draw_b .nil pass0 (pa_cons (pv 0) (pa_cons (pv 6) pa_nil))))
      (C8.pss_cut (ps_if (pt_cmpR op_gt (pv 2) pe_int (nomark _))
        (pss_one (sset 7 nd (pe_op op_sub (pe_op op_sub (pe_callB (lenK K) (by rfl) T.m_len PySem.boot_len (pa_cons (pv 3) pa_nil)) pe_int) (pe_op op_mod (pv 7) (pe_callB (call_min2 rfl) (by rfl) T.m_min (by decide +kernel) (pa_cons pe_int (pa_cons (pe_callB (lenK K) (by rfl) T.m_len PySem.boot_len (pa_cons (pv 3) pa_nil)) pa_nil)))))))
        pss_nil)
      (pss_one (ps_expr (pe_bmK K PySem.F.plainAttrs_list PySem.F.slot_list_append PySem.F.type_list_append mt_append (pv 4) (pa_cons (pe_bmK K PySem.F.plainAttrs_list PySem.F.slot_list_pop PySem.F.type_list_pop mt_popAt (pv 3) (pa_cons (pv 7) pa_nil)) pa_nil))))))))
      (pss_one (ps_ret (pv 4))))), ?_⟩
  fail "g"
  refine ⟨r, g, 4, m, rfl, hR, by omega, by decide, by decide, fun H1 way h0 h1 s1 hR1 => ?_⟩
  fail "g"
  refine ⟨RgOk.of_le (by omega) (by omega) (by omega) (by omega), fun l0 nl => ?_⟩
  rw [rg_ascN] at *
  have hlr := hR1.ner nl
  have nl0 := hR1.free s1 nl
  have hl0 := upd_same (H := H1) (a := l0) (o := .lst ((ascN wide).map V.int))
  have s2 := s1.same (same_new (o := .lst ((ascN wide).map V.int)) nl)
  have hR2 := hR1.same (same_new (o := .lst ((ascN wide).map V.int)) nl)
  generalize upd H1 l0 (.lst ((ascN wide).map V.int)) = H2 at hl0 s2 hR2 ⊢
  fail "g"
  intro f0 nf
  have hfr := hR2.ner nf
  have nf0 := hR2.free s2 nf
  have hfl : l0 ≠ f0 := ne_of_none hl0 nf
  have hl0' := upd_old (o := .lst []) nf hl0
  have hf0 := upd_same (H := H2) (a := f0) (o := .lst [])
  have s3 := s2.same (same_new (o := .lst []) nf)
  have hR3 := hR2.same (same_new (o := .lst []) nf)
  generalize upd H2 f0 (.lst []) = H3 at hl0' hf0 s3 hR3 ⊢
  fail "g"
  have haN : (ascN wide).length = wide := by simp [ascN]
  refine ⟨by omega, by omega, ?_⟩
  refine forF walk_range (fun i σ' H' => ∃ (l1 l2 : List Int) (y5 y6 y7 : Option V), σ' = [some (.ref r), some (.int (wide : Int)), some (.int way), some (.ref l0), some (.ref f0), y5, y6, y7] ∧ l1.length + i = wide ∧ l2.length = i ∧ (l1 ++ l2).Perm (ascN wide) ∧ H' l0 = some (.lst (l1.map V.int)) ∧ H' f0 = some (.lst (l2.map V.int)) ∧ Sy r g H H' ∧ Bag H' r g (m + 1 + i))
    ⟨ascN wide, [], none, none, none, rfl, haN, rfl, by rw [List.append_nil], hl0', hf0, s3, hR3⟩ (fun _ _ _ _ _ => trivial) (fun i σ' H' hi p => ?_) (fun σ' H' p => ?_)
  · clear hl0 hl0' hf0 s3 hR3 s2 hR2 nf nl
    obtain ⟨l1, l2, y5, y6, y7, rfl, hlen, hlen2, hperm, h1', h2', sH, hRi⟩ := p
    have hi' : i < wide := by omega
    have hpos : 1 ≤ l1.length := by omega
    fail "g"
    intro lx nx
    rw [List.length_map] at *
    have hlxr := hRi.ner nx
    obtain ⟨fa, hat, hf1, hf2⟩ : ∃ fa, atI [V.int (l1.length : Int), V.int (if (l1.length : Int) < 2 then (l1.length : Int) else 2), V.int (l1.length : Int), V.int 1] way = some (.int fa) ∧ 1 ≤ fa ∧ fa ≤ l1.length := by
      have : way = 0 ∨ way = 1 ∨ way = 2 ∨ way = 3 := by omega
      rcases this with h | h | h | h <;> subst h
      · exact ⟨_, rfl, by omega, by omega⟩
      · exact ⟨_, rfl, by split <;> omega, by split <;> omega⟩
      · exact ⟨_, rfl, by omega, by omega⟩
      · exact ⟨_, rfl, by omega, by omega⟩
    have sx := same_new (o := .lst [V.int (l1.length : Int), V.int (if (l1.length : Int) < 2 then (l1.length : Int) else 2), V.int (l1.length : Int), V.int 1]) nx
    have hlx := upd_same (H := H') (a := lx) (o := .lst [V.int (l1.length : Int), V.int (if (l1.length : Int) < 2 then (l1.length : Int) else 2), V.int (l1.length : Int), V.int 1])
    generalize upd H' lx (.lst [V.int (l1.length : Int), V.int (if (l1.length : Int) < 2 then (l1.length : Int) else 2), V.int (l1.length : Int), V.int 1]) = Hx at sx hlx ⊢
    fail "g"
    refine r_ixL (sq hlx) hat ?_
    fail "g"
    refine ⟨r, g, fa, _, rfl, hRi.same sx, by omega, by omega, by omega, fun H5 d hd0 hd1 s5 hR5 => ?_⟩
    have h15 := s5 _ _ hlr.1 hlr.2 (sx _ _ h1')
    have h25 := s5 _ _ hfr.1 hfr.2 (sx _ _ h2')
    have sH5 := (sH.same sx).trans s5
    fail "g"
    refine r_cut (fun σ' H' => ∃ (j : Nat) (y6 : Option V) (_u : Unit), σ' = [some (.ref r), some (.int (wide : Int)), some (.int way), some (.ref l0), some (.ref f0), some (.int (0 + (i : Int))), y6, some (.int (j : Int))] ∧ j < l1.length ∧ H' = H5) ?_ (fun σ' H' p => ?_)
    · fail "g"
      refine r_dec (fun hy => ?_) (fun hy => ?_)
      · fail "g"
        rw [List.length_map]
        refine r_I (C := fun _ j => 0 < j) (by show (0 : Int) < (if (l1.length : Int) < 3 then (l1.length : Int) else 3); split <;> omega) ?_
        have hm3 : 0 ≤ d % (if (l1.length : Int) < 3 then (l1.length : Int) else 3) := Int.emod_nonneg _ (by split <;> omega)
        have hm4 : d % (if (l1.length : Int) < 3 then (l1.length : Int) else 3) < (if (l1.length : Int) < 3 then (l1.length : Int) else 3) := Int.emod_lt_of_pos _ (by split <;> omega)
        generalize d % (if (l1.length : Int) < 3 then (l1.length : Int) else 3) = e at hm3 hm4 ⊢
        have he : e < l1.length := by
          by_cases h : (l1.length : Int) < 3
          · rw [if_pos h] at hm4; exact hm4
          · rw [if_neg h] at hm4; omega
        obtain ⟨j, hj⟩ := Int.eq_ofNat_of_zero_le (show 0 ≤ (l1.length : Int) - 1 - e by omega)
        fail "g"
        refine ⟨j, some (.int fa), (), ?_, by omega, rfl⟩
        rw [hj]
        rfl
      · fail "g"
        obtain ⟨j, rfl⟩ := Int.eq_ofNat_of_zero_le hd0
        exact ⟨j, _, (), rfl, by omega, rfl⟩
    · obtain ⟨j, y6, _, rfl, hj, rfl⟩ := p
      fail "g"
      refine r_popAt (k := j) h15 rfl (y := .int l1[j]) (by simp [hj]) (by omega) ?_
      have h26 := upd_to (o := .lst ((l1.map V.int).eraseIdx j)) hfl.symm h25
      fail "g"
      refine r_append h26 (by rw [List.length_map]; exact size_lt (by omega)) ?_
      rw [map_snoc, erase_map]
      have hl : (l1.eraseIdx j).length = l1.length - 1 := List.length_eraseIdx_of_lt hj
      fail "g"
      refine ⟨l1.eraseIdx j, l2 ++ [l1[j]], _, _, _, rfl, by omega, by rw [List.length_append, hlen2]; rfl, ?_, upd_to hfl upd_same, upd_same, (sH5.old nl0).old nf0, (((hR5.other hlr).other hfr)).le (by omega)⟩
      refine List.Perm.trans ?_ hperm
      refine List.Perm.trans ?_ ((erase_perm l1 j hj).append_right l2)
      rw [List.cons_append]
      refine List.Perm.trans (List.Perm.append_left _ (List.perm_append_comm)) ?_
      exact List.perm_middle
  · obtain ⟨l1, l2, y5, y6, y7, rfl, hlen, hlen2, hperm, h1', h2', sH, hRi⟩ := p
    rw [Int.toNat_natCast] at hlen hRi
    have e : l1 = [] := List.eq_nil_of_length_eq_zero (by omega)
    subst e
    fail "g"
    exact q _ f0 l2 sH nf0 (hRi.le (by omega)) h2' hperm
def sp_law_distances (K : PySem.W.Frag) : Sp := fun vs H Q _ => ∃ (n : Nat), vs = [.int n] ∧ 1 ≤ n ∧ n ≤ 5 ∧
  ∀ (H' : Hp) (p : Addr) (F : Fd), Same H H' → H p = none → H' p = some (.dT (fkv F)) → Gd n F → F.length ≤ 10000000 → Q (.ref p) H'
theorem ok_law_distances (T : Txt K mg) : FnG P w K mg base CX0 2 T.law_distances_a T.law_distances_d ["size_here"] (sp_law_distances K) := by
  refine okG T.law_distances_F sc_law_distances (fun vs H Q E h => ?_) (fun cdv A ou t H vs Q E hG hr h => ?_)
  · obtain ⟨_, rfl, _⟩ := h; rfl
  have nd := sc_law_distances.nd
  obtain ⟨n, rfl, hn1, hn, q⟩ := h
  refine ⟨_, (pss_cons (sset 1 nd (pe_callTy (tupleK K) (by rfl) T.m_tuple (by decide +kernel) (pa_cons (pe_callG (ok_law_down T) hG (hr.mono (by decide)) (by rfl) T.law_down_g T.law_down_F.kp T.law_down_b .nil pass0 (pa_cons (pv 0) pa_nil)) pa_nil)))
      (pss_cons (ps_par3 (i := 2) (j := 3) (l := 4) (by rfl) nd rfl rfl rfl (by decide) (by decide) (by decide) rfl rfl rfl (pa_cons (pe_dispT hr.units (pps_cons (pv 1) pe_int pps_nil)) (pa_cons (pe_lst (pa_cons (pv 1) pa_nil)) (pa_cons pe_int pa_nil))) (by rfl))
      (pss_cons (ps_while PassesOwn.never (pt_cmpR (neDK K hr.units) (pv 3) (pe_lst pa_nil) (nomark _))
        (pss_cons (ps_par (i := 5) (j := 4) (by rfl) nd rfl rfl (by decide) rfl rfl (pa_cons (pe_lst pa_nil) (pa_cons (pe_op op_add (pv 4) pe_int) pa_nil)) (by rfl))
      (pss_cons (ps_for PassesOwn.never rfl (pi_listK K (pv 3)) (gset 6 nd)
        (pss_one (ps_for PassesOwn.never rfl (pi_range2 (by rfl) T.m_range (pa_cons pe_int (pa_cons (pv 0) pa_nil))) (gset 7 nd)
        (pss_cons (sset 8 nd (pe_callTy (tupleK K) (by rfl) T.m_tuple (by decide +kernel) (pa_cons (pe_callG (ok_law_after T) hG (hr.mono (by decide)) (by rfl) T.law_after_g T.law_after_F.kp T.law_after_b .nil pass0 (pa_cons (pv 6) (pa_cons (pe_lst (pa_cons (pe_tup (pa_cons (pv 7) (pa_cons (pe_op op_add (pv 7) pe_int) pa_nil))) pa_nil)) pa_nil))) pa_nil)))
      (pss_one (ps_if (pt_cmp (pc_dnotin (hu_of hr) (pv 8) (pv 2)) (by rfl))
        (pss_cons (ps_dput (hu_of hr) (pv 2) (pv 8) (pv 4) rfl)
      (pss_one (ps_expr (pe_bmK K PySem.F.plainAttrs_list PySem.F.slot_list_append PySem.F.type_list_append mt_append (pv 5) (pa_cons (pv 8) pa_nil)))))
        pss_nil))))))
      (pss_one (sset 3 nd (pv 5))))))
      (pss_one (ps_ret (pv 2)))))), ?_⟩
  fail "ww"
  refine ⟨n, rfl, by omega, fun H1 p1 s1 n1 h1 => ?_⟩
  fail "ww"
  refine n_tupOf (sq h1) (new_ fun t0 H2 n2 s2 h2 => ?_)
  fail "ww"
  intro pd npd
  have ht0 := upd_old (o := HO.dT []) npd h2
  show tVar 1 _ _ _
  fail "ww"
  show _ ∧ _
  refine ⟨upd_same, t0, (desc n).map Sum.inl, .int 0, rfl, by rw [key_v]; exact ht0, ?_⟩
  have s3 : Same H2 (upd (upd H2 pd (.dT [])) pd (.dT [((desc n).map Sum.inl, V.int 0)])) := same_old (same_new npd) npd
  have hd3 : (upd (upd H2 pd (.dT [])) pd (.dT [((desc n).map Sum.inl, V.int 0)])) pd = some (.dT (fkv [(desc n, 0)])) := upd_same
  generalize upd (upd H2 pd (.dT [])) pd (.dT [((desc n).map Sum.inl, V.int 0)]) = H3 at s3 hd3 ⊢
  have npH : H pd = none := (s1.trans s2).free npd
  have h23 := s3 _ _ h2
  have s03 := s1.trans (s2.trans s3)
  clear ht0 s1 s2 s3 h1 h2 n1 n2 npd
  fail "ww"
  refine new_ fun pl H4 n4 s4 h4 => ?_
  fail "ww"
  obtain ⟨T, hT⟩ : ∃ T, inv (desc n) = T := ⟨_, rfl⟩
  have hT10 : T ≤ 10 := by
    have := desc_inv n
    have h5 : n * n ≤ 5 * 5 := Nat.mul_le_mul hn hn
    rw [hT] at this
    have : n = 1 ∨ n = 2 ∨ n = 3 ∨ n = 4 ∨ n = 5 := by omega
    rcases this with e | e | e | e | e <;> subst e <;> omega
  have p4 : ∀ a b : Nat, a ≤ b → 4 ^ a ≤ 4 ^ b := fun a b h => Nat.pow_le_pow_right (by decide) h
  refine r_while (Wd n T t0 pd H) (T + 1)
    ⟨pl, 0, [(desc n, 0)], [t0], [desc n], none, none, none, none, rfl, s03.trans s4, s4 _ _ hd3, fun x hx => ?_, h4, (ne_of_none hd3 n4).symm, ⟨rfl, fun i t e => ?_⟩, fun x hx => ?_, (by show 1 ≤ 1; decide), (by show 1 ≤ 2; decide), rfl, fun x hx => ?_⟩ (fun w σ' G p => ?_)
  · rw [List.mem_singleton.mp hx]; exact ⟨desc_perm n, by rw [Nat.zero_add]⟩
  · cases i with
    | zero => cases e; exact ⟨desc n, rfl, s4 _ _ h23⟩
    | succ i => simp at e
  · rw [List.mem_singleton.mp hx]; exact ⟨desc_perm n, by rw [Nat.zero_add]; exact hT⟩
  · rw [List.mem_singleton.mp hx]; exact new_key (F := []) rfl
  clear s4 h4 n4 h23 s03 hd3
  obtain ⟨pl, mm, F, as, rows, y5, y6, y7, y8, rfl, s, hd, hG, hl, hlp, hW, hr, hrl, hFl, hw, hK⟩ := p
  fail "ww"
  refine new_ fun e0 G1 m1 t1 g1 => ?_
  refine r_neTps (sq (t1 _ _ hl)) (hW.same t1) (sq g1) ?_
  fail "ww"
  by_cases hrn : rows = []
  · rw [decide_eq_true hrn]
    fail "ww"
    have h11 := p4 mm 11 (by omega)
    have e11 : (4 : Nat) ^ 11 = 4194304 := by decide
    exact q _ pd F (s.trans t1) npH (t1 _ _ hd) hG (by omega)
  · rw [decide_eq_false hrn]
    have hmm : mm ≤ T := by
      cases rows with
      | nil => exact absurd rfl hrn
      | cons x r => have := (hr x List.mem_cons_self).2; omega
    have h10 := p4 mm 10 (by omega)
    have e10 : (4 : Nat) ^ 10 = 1048576 := by decide
    have e4 : (4 : Nat) ^ (mm + 1) = 4 * 4 ^ mm := by rw [Nat.pow_succ, Nat.mul_comm]
    refine ⟨Wd n T t0 pd H (w - 1), fun σ' H' h => ⟨w - 1, by omega, h⟩, ?_⟩
    fail "ww"
    refine new_ fun pt G2 m2 t2 g2 => ?_
    fail "ww"
    have t12 := t1.trans t2
    have hptd : pt ≠ pd := (ne_of_none (t1 _ _ hd) m2).symm
    have hptl : pl ≠ pt := ne_of_none (t1 _ _ hl) m2
    have hd2 := t12 _ _ hd
    have hl2 := t12 _ _ hl
    have hW2 := hW.same t12
    have s2 := s.trans t12
    have nptH : H pt = none := (s.trans t1).free m2
    clear t1 t2 t12 hd hl hW s g1 m1 m2
    refine forA (walk_list (xs := as.map V.ref)) (fun i σ' G => ∃ (F : Fd) (bs : List Addr) (ys : List (List Int)) (y6 y7 y8 : Option V), σ' = [some (.int (n : Int)), some (.ref t0), some (.ref pd), some (.ref pl), some (.int ((mm : Int) + 1)), some (.ref pt), y6, y7, y8] ∧ Same H G ∧ G pd = some (.dT (fkv F)) ∧ Gd n F ∧ G pl = some (.lst (as.map V.ref)) ∧ Tps G as rows ∧ G pt = some (.lst (bs.map V.ref)) ∧ Tps G bs ys ∧ (∀ x ∈ ys, x.Perm (ascN n) ∧ mm + 1 + inv x = T) ∧ ys.length ≤ 4 * i ∧ F.length ≤ 2 * 4 ^ mm + 4 * i ∧ (∀ x ∈ rows, (valV (fkv F) (x.map Sum.inl)).isSome = true) ∧ (∀ x ∈ ys, (valV (fkv F) (x.map Sum.inl)).isSome = true))
      ⟨F, [], [], y6, y7, y8, rfl, s2, hd2, hG, hl2, hW2, g2, ⟨rfl, fun i t e => by simp at e⟩, (fun x hx => by cases hx), Nat.zero_le _, hFl, hK, (fun x hx => by cases hx)⟩ (fun i σ' G _ p' => ?_) (fun i σ' G hi p' => ?_) (fun σ' G p' => ?_)
    · obtain ⟨_, _, _, _, _, _, _, _, _, _, h, _⟩ := p'; exact sq h
    · clear hd2 hl2 hW2 s2 g2 hG hFl hK
      obtain ⟨F, bs, ys, y6, y7, y8, rfl, s, hd, hG, hl, hW, hpt, hB, hy, hyl, hFl, hK, hKy⟩ := p'
      have hi' : i < rows.length := by rw [← hW.1]; simpa using hi
      have hia : i < as.length := by rw [hW.1]; exact hi'
      have e1 : (as.map V.ref)[i] = .ref as[i] := List.getElem_map ..
      rw [e1]
      have hxr := hr _ (List.getElem_mem hi')
      generalize hx : rows[i] = x at hxr
      fail "ww"
      refine ⟨⟨by omega, by omega, by omega, by omega⟩, ?_⟩
      refine forF walk_range (fun j σ' G => ∃ (F : Fd) (bs : List Addr) (ys : List (List Int)) (y7 y8 : Option V), σ' = [some (.int (n : Int)), some (.ref t0), some (.ref pd), some (.ref pl), some (.int ((mm : Int) + 1)), some (.ref pt), some (.ref as[i]), y7, y8] ∧ Same H G ∧ G pd = some (.dT (fkv F)) ∧ Gd n F ∧ G pl = some (.lst (as.map V.ref)) ∧ Tps G as rows ∧ G pt = some (.lst (bs.map V.ref)) ∧ Tps G bs ys ∧ (∀ x ∈ ys, x.Perm (ascN n) ∧ mm + 1 + inv x = T) ∧ ys.length ≤ 4 * i + j ∧ F.length ≤ 2 * 4 ^ mm + 4 * i + j ∧ (∀ x ∈ rows, (valV (fkv F) (x.map Sum.inl)).isSome = true) ∧ (∀ x ∈ ys, (valV (fkv F) (x.map Sum.inl)).isSome = true))
        ⟨F, bs, ys, y7, y8, rfl, s, hd, hG, hl, hW, hpt, hB, hy, hyl, hFl, hK, hKy⟩ (fun _ _ _ _ _ => trivial) (fun j σ' G hj p => ?_) (fun σ' G p => ?_)
      · clear s hd hG hl hW hpt hB hy hyl hFl hK hKy
        obtain ⟨F, bs, ys, y7, y8, rfl, s, hd, hG, hl, hW, hpt, hB, hy, hyl, hFl, hK, hKy⟩ := p
        have hj4 : j + 1 < n := by omega
        obtain ⟨x', ex', hxt⟩ := hW.2 i _ (List.getElem?_eq_getElem hia)
        rw [List.getElem?_eq_getElem hi', hx] at ex'
        obtain rfl : x = x' := Option.some.inj ex'
        fail "ww"
        refine new_ fun v1 G1 m1 t1 g1 => ?_
        fail "ww"
        refine new_ fun v2 G2 m2 t2 g2 => ?_
        fail "ww"
        have t12 := t1.trans t2
        have hxl : x.length = n := by rw [hxr.1.length_eq]; simp [ascN]
        have c1 : Cm G2 [v1] [((1 + j, 1 + j + 1) : Cmd)] := ⟨rfl, fun i t e => by
          cases i with
          | zero => cases e; exact ⟨_, rfl, t2 _ _ (by rw [g1]; rfl)⟩
          | succ i => simp at e⟩
        refine ⟨as[i], v2, x, [v1], [(1 + j, 1 + j + 1)], rfl, .inr (sqT (t12 _ _ hxt)), sq g2, c1, by omega, (fun c hc => by rw [List.mem_singleton.mp hc]; exact ⟨by show 1 ≤ 1 + j; omega, by show 1 + j ≤ 1 + j + 1; omega, by show 1 + j + 1 ≤ x.length; omega⟩), fun G3 v3 t3 m3 g3 => ?_⟩
        fail "ww"
        obtain ⟨y, hyE⟩ : ∃ y, runM x [(1 + j, 1 + j + 1)] = y := ⟨_, rfl⟩
        have hyp : y.Perm (ascN n) := by
          rw [← hyE]
          exact (runM_perm _ _ (fun c hc => by rw [List.mem_singleton.mp hc]; exact ⟨by show 1 ≤ 1 + j; omega, by show 1 + j ≤ 1 + j + 1; omega, by show 1 + j + 1 ≤ x.length; omega⟩)).trans hxr.1
        have hstep := step_two hxr.1 (show 1 ≤ 1 + j by omega) (show 1 + j < n by omega)
        have hyE' : step x (1 + j, 1 + j + 1) = y := hyE
        rw [hyE'] at hstep
        rw [hyE] at g3
        refine n_tupOf (sq g3) (new_ fun q4 G4 m4 t4 g4 => ?_)
        have t14 := t12.trans (t3.trans t4)
        have hd4 := t14 _ _ hd
        have hl4 := t14 _ _ hl
        have hpt4 := t14 _ _ hpt
        have hW4 := hW.same t14
        have hB4 := hB.same t14
        have s4 := s.trans t14
        clear t12 t3 t4 t14 t1 t2 hd hl hpt hW hB s g1 g2 g3 m1 m2 m3 c1
        fail "ww"
        refine ⟨pd, _, rfl, .inr ⟨fkv F, y.map Sum.inl, q4, .inl hd4, rfl, by rw [key_v]; exact g4, rfl⟩, ?_⟩
        cases ev : valV (fkv F) (y.map Sum.inl) with
        | some v =>
          fail "ww"
          exact ⟨F, bs, ys, _, _, rfl, s4, hd4, hG, hl4, hW4, hpt4, hB4, hy, by omega, by omega, hK, hKy⟩
        | none =>
          have hyx : inv y + 1 = inv x := by
            rcases hstep with e | e
            · have := hK x (by rw [← hx]; exact List.getElem_mem hi')
              rw [← e, ev] at this; cases this
            · exact e
          rw [show (!(none : Option V).isSome) = true from rfl]
          fail "ww"
          refine ⟨pd, _, rfl, .inr ⟨fkv F, y.map Sum.inl, q4, hd4, rfl, by rw [key_v]; exact g4, by unfold fkv; rw [List.length_map]; exact size_lt (by omega), rfl⟩, ?_⟩
          rw [show (mm : Int) + 1 = ((mm + 1 : Nat) : Int) by omega, valV_none ev]
          fail "ww"
          refine r_append (upd_to hptd hpt4) (size_lt (by rw [List.length_map, hB4.1]; omega)) ?_
          have nt1 : ∀ xs, HO.dT (fkv F) ≠ .tup xs := fun xs z => by cases z
          have nt2 : ∀ xs, HO.lst (bs.map V.ref) ≠ .tup xs := fun xs z => by cases z
          have hpt5 := upd_to (o := HO.dT (fkv (F ++ [(y, mm + 1)]))) hptd hpt4
          refine ⟨F ++ [(y, mm + 1)], bs ++ [q4], ys ++ [y], some (.int (1 + (j : Int))), some (.ref q4), rfl, same_old (same_old s4 npH) nptH, upd_to hptd.symm upd_same, fun z hz => ?_, upd_to hptl (upd_to hlp hl4), (hW4.put hd4 nt1).put hpt5 nt2, by rw [upd_same, List.map_append]; rfl, ((hB4.snoc g4).put hd4 nt1).put hpt5 nt2, fun z hz => ?_, by rw [List.length_append]; simp only [List.length_singleton]; omega, by rw [List.length_append]; simp only [List.length_singleton]; omega, fun z hz => keep_key ev (hK z hz), fun z hz => ?_⟩
          · rcases List.mem_append.mp hz with h | h
            · exact hG z h
            · rw [List.mem_singleton.mp h]
              exact ⟨hyp, by show mm + 1 + inv y = inv (desc n); rw [hT]; have := hxr.2; omega⟩
          · rcases List.mem_append.mp hz with h | h
            · exact hy z h
            · rw [List.mem_singleton.mp h]
              exact ⟨hyp, by have := hxr.2; omega⟩
          · rcases List.mem_append.mp hz with h | h
            · exact keep_key ev (hKy z h)
            · rw [List.mem_singleton.mp h]; exact new_key ev
      · obtain ⟨F, bs, ys, y7, y8, rfl, s, hd, hG, hl, hW, hpt, hB, hy, hyl, hFl, hK, hKy⟩ := p
        exact ⟨F, bs, ys, _, y7, y8, rfl, s, hd, hG, hl, hW, hpt, hB, hy, by omega, by omega, hK, hKy⟩
    · clear hd2 hl2 hW2 s2 g2 hG hFl hK
      obtain ⟨F, bs, ys, y6, y7, y8, rfl, s, hd, hG, hl, hW, hpt, hB, hy, hyl, hFl, hK, hKy⟩ := p'
      rw [List.length_map, hW.1] at hyl hFl
      fail "ww"
      exact ⟨pt, mm + 1, F, bs, ys, _, y6, y7, y8, rfl, s, hd, hG, hpt, hptd, hB, hy, by omega, by omega, by omega, hKy⟩
def sp_law_right (K : PySem.W.Frag) : Sp := fun vs H Q _ => ∃ (a : Addr) (E : List Int) (d : Nat), vs = [.ref a, .int d] ∧ H a = some (.lst (E.map V.int)) ∧ E.Perm (ascN E.length) ∧ 1 ≤ E.length ∧ E.length ≤ 100 ∧ d + inv E = inv (desc E.length) ∧
  ∀ H', Same H H' → Q (.bl true) H'
theorem ok_law_right (T : Txt K mg) : FnG P w K mg base CX0 3 T.law_right_a T.law_right_d ["line", "many"] (sp_law_right K) := by
  refine okG T.law_right_F sc_law_right (fun vs H Q E h => ?_) (fun cdv A ou t H vs Q E hG hr h => ?_)
  · obtain ⟨_, _, _, rfl, _⟩ := h; rfl
  have nd := sc_law_right.nd
  obtain ⟨a, E, d, rfl, hA, hE, hn1, hn, hd, q⟩ := h
  refine ⟨_, (pss_cons (sset 2 nd (pe_callB (reprK K hG hr.units) (by rfl) T.m_repr (by decide +kernel) (pa_cons (pv 0) pa_nil)))
      (pss_cons (sset 3 nd (pe_callG (ok_exchanges T) hG (hr.mono (by decide)) (by rfl) T.exchanges_g T.exchanges_F.kp T.exchanges_b .nil pass0 (pa_cons (pv 0) pa_nil)))
      (pss_cons (ps_if (PW.pt (pw_or (pt_not (pt_val (pe_callB (isiK K) (by rfl) T.m_isinstance (by decide +kernel) (pa_cons (pv 3) (pa_cons (pe_bltn (v := .ty "list") (u := .type "list") (by rfl) T.m_list (by decide +kernel) rfl) pa_nil))))) (pw_or (pt_cmpR op_ne (pe_callB (lenK K) (by rfl) T.m_len PySem.boot_len (pa_cons (pv 3) pa_nil)) (pv 1) (nomark _)) (pw_or1 (pt_cmpR op_ne (pe_callB (reprK K hG hr.units) (by rfl) T.m_repr (by decide +kernel) (pa_cons (pv 0) pa_nil)) (pv 2) (nomark _))))))
        (pss_one (ps_ret pe_bl))
        pss_nil)
      (pss_cons (ps_for PassesOwn.never rfl (pi_listK K (pv 3)) (gset 4 nd)
        (pss_one (ps_if (PW.pt (pw_or (pt_not (pt_val (pe_callB (isiK K) (by rfl) T.m_isinstance (by decide +kernel) (pa_cons (pv 4) (pa_cons (pe_bltn (v := .ty "tuple") (u := .type "tuple") (by rfl) T.m_tuple (by decide +kernel) rfl) pa_nil))))) (pw_or (pt_cmpR op_ne (pe_callB (lenK K) (by rfl) T.m_len PySem.boot_len (pa_cons (pv 4) pa_nil)) pe_int (nomark _)) (pw_or (pt_cmpR op_ne (pe_op op_sub (pe_ix (ix_tupK K) (pv 4) pe_int (fun _ _ => rfl)) (pe_ix (ix_tupK K) (pv 4) pe_int (fun _ _ => rfl))) pe_int (nomark _)) (pw_or1 (pt_not (pt_chain op_le op_lt pe_int (pe_ix (ix_tupK K) (pv 4) pe_int (fun _ _ => rfl)) (pe_callB (lenK K) (by rfl) T.m_len PySem.boot_len (pa_cons (pv 0) pa_nil)))))))))
        (pss_one (ps_ret pe_bl))
        pss_nil)))
      (pss_cons (ps_expr (pe_bmK K PySem.F.plainAttrs_list PySem.F.slot_list_append PySem.F.type_list_append mt_append (pv 3) (pa_cons (pe_tup (pa_cons pe_int (pa_cons pe_int pa_nil))) pa_nil)))
      (pss_cons (sset 5 nd (pe_callKG0 (ok_exchanges T) hG (hr.mono (by decide)) (by rfl) T.exchanges_g T.exchanges_F.kp T.k_exchanges_wanted pass0 (pk_cons (pv 0) pk_nil)))
      (pss_one (ps_ret (pe_and (pe_cmpR (eqDK K hr.units) (pv 5) (pe_slice (sl_listK K) (pv 3) po_none (po_some (pe_un un_neg pe_int))) (nomark _)) (pe_one (pe_cmpR (eqDK K hr.units) (pe_callG (ok_law_after T) hG (hr.mono (by decide)) (by rfl) T.law_after_g T.law_after_F.kp T.law_after_b .nil pass0 (pa_cons (pe_callG (ok_law_down T) hG (hr.mono (by decide)) (by rfl) T.law_down_g T.law_down_F.kp T.law_down_b .nil pass0 (pa_cons (pe_callB (lenK K) (by rfl) T.m_len PySem.boot_len (pa_cons (pv 0) pa_nil)) pa_nil)) (pa_cons (pv 5) pa_nil))) (pv 0) (nomark _)))))))))))), ?_⟩
  have hb : ∀ i ∈ E, i.natAbs < 10 ^ 300 := fun x hx => by
    obtain ⟨k, hk, rfl⟩ := List.mem_map.mp (hE.mem_iff.mp hx)
    have := List.mem_range.mp hk
    exact Nat.lt_of_le_of_lt (show (1 + (k : Int)).natAbs ≤ 200 by omega) (by decide)
  fail "ww"
  refine n_reprL (sq hA) (by omega) hb ?_
  fail "ww"
  refine ⟨a, E, rfl, sq hA, hE, hn1, by omega, fun H1 p ts ps s1 np nts hp hC hSt hLv hpl hex => ?_⟩
  have hcnt := (asc_count hE hSt hLv).2
  have hdn := desc_inv E.length
  have hpd : ps.length = d := by omega
  have hA1 := s1 _ _ hA
  fail "ww"
  refine r_isi (tyx_list (sq hp)) (r := true) (by decide +kernel) ?_
  fail "ww"
  have htl : ts.length = ps.length := by rw [hC.len, List.length_map]
  rw [List.length_map, htl, hpd]
  refine r_itNF rfl ?_
  fail "ww"
  refine n_reprL (sq hA1) (by omega) hb ?_
  fail "ww"
  refine r_itNF rfl ?_
  fail "ww"
  refine forA (walk_list (xs := ts.map V.ref)) (fun i σ' G => ∃ (y4 : Option V) (_u : Unit), σ' = [some (.ref a), some (.int (d : Int)), some (.str (dI E).shown), some (.ref p), y4, none] ∧ G = H1)
    ⟨none, (), rfl, rfl⟩ (fun i σ' G _ p' => ?_) (fun i σ' G hi p' => ?_) (fun σ' G p' => ?_)
  · obtain ⟨_, _, _, rfl⟩ := p'; exact sq hp
  · obtain ⟨y4, _, rfl, rfl⟩ := p'
    have hi' : i < ps.length := by rw [← htl]; simpa using hi
    have hic : i < (ps.map fun k => (k, k + 1)).length := by rw [List.length_map]; exact hi'
    obtain ⟨t0, et, ht⟩ := hC.idx hic
    have e1 : (ts.map V.ref)[i] = .ref t0 := by
      have : (ts.map V.ref)[i]? = some (.ref t0) := by rw [List.getElem?_map, et]; rfl
      rw [List.getElem?_eq_getElem hi] at this
      exact Option.some.inj this
    rw [e1]
    have hk := hSt.1 _ (List.getElem_mem hi')
    rw [List.getElem_map] at ht
    generalize ps[i] = k at ht hk
    fail "ww"
    refine r_isi (tyx_tup (sqT ht)) (r := true) (by decide +kernel) ?_
    fail "ww"
    refine r_lenT (sqT ht) ?_
    fail "ww"
    refine r_itNF rfl ?_
    fail "ww"
    refine r_ixT (sqT ht) (show atI _ (1 : Int) = some (V.int ((k + 1 : Nat) : Int)) from rfl) ?_
    fail "ww"
    refine r_ixT (sqT ht) (show atI _ (0 : Int) = some (V.int (k : Int)) from rfl) ?_
    fail "ww"
    refine r_itNF (by omega) ?_
    fail "ww"
    refine r_ixT (sqT ht) (show atI _ (0 : Int) = some (V.int (k : Int)) from rfl) ?_
    fail "ww"
    rw [decide_eq_true (show (1 : Int) ≤ (k : Int) by omega)]
    fail "ww"
    rw [List.length_map, decide_eq_true (show (k : Int) < ((E.length : Nat) : Int) by omega)]
    fail "ww"
    exact ⟨_, (), rfl, rfl⟩
  · obtain ⟨y4, _, rfl, rfl⟩ := p'
    fail "ww"
    refine new_ fun v1 H2 n2 s2 h2 => ?_
    fail "ww"
    refine r_append (s2 _ _ hp) (size_lt (by rw [List.length_map]; omega)) ?_
    have s3 : Same H (upd H2 p (.lst (ts.map V.ref ++ [V.ref v1]))) := same_old (s1.trans s2) np
    have hp3 : (upd H2 p (.lst (ts.map V.ref ++ [V.ref v1]))) p = some (.lst ((ts ++ [v1]).map V.ref)) := by rw [upd_same, List.map_append]; rfl
    have hC3 : Cm (upd H2 p (.lst (ts.map V.ref ++ [V.ref v1]))) ts (ps.map fun k => (k, k + 1)) := (hC.same s2).put (s2 _ _ hp)
    generalize upd H2 p (.lst (ts.map V.ref ++ [V.ref v1])) = H3 at s3 hp3 hC3 ⊢
    fail "ww"
    refine ⟨a, E, rfl, sq (s3 _ _ hA), hE, hn1, by omega, fun H4 p2 ts2 ps2 s4 np2 nts2 hp2 hC2 hSt2 hLv2 hpl2 hex2 => ?_⟩
    fail "ww"
    refine n_slL (sq (s4 _ _ hp3)) (new_ fun v2 H5 n5 s5 h5 => ?_)
    have h5' : H5 v2 = some (.lst (ts.map V.ref)) := by
      rw [h5, cut_m1, List.map_append, List.length_append]
      simp
    have e2 : ps2 = ps := by rw [hex2, hex]
    rw [e2] at hC2
    refine r_eqCs (sq (s5 _ _ hp2)) (hC2.same s5) (sq h5') ((hC3.same s4).same s5) ?_
    rw [decide_eq_true rfl]
    fail "ww"
    refine ⟨E.length, by rw [List.length_map]; rfl, by omega, fun H6 p6 s6 n6 h6 => ?_⟩
    fail "ww"
    have s46 := s5.trans s6
    refine ⟨p6, p2, desc E.length, ts2, _, rfl, .inl (sq h6), sq (s46 _ _ hp2), hC2.same s46, by rw [desc_len]; omega, by rw [desc_len]; exact hSt.1.fits, fun H7 p7 s7 n7 h7 => ?_⟩
    fail "ww"
    have s37 := s4.trans (s46.trans s7)
    have e3 : runM (desc E.length) (ps.map fun k => (k, k + 1)) = E := hSt.2
    rw [e3] at h7
    refine r_eqL (sq h7) (sq (s37 _ _ (s3 _ _ hA))) ?_
    rw [decide_eq_true rfl]
    exact q _ (s3.trans s37)
theorem asc_snoc (x : Int) : ∀ l : List Int, asc (l ++ [x]) = asc l + less x l
  | [] => rfl
  | y :: r => by
    have ih := asc_snoc x r
    show gt y (r ++ [x]) + asc (r ++ [x]) = gt y r + asc r + less x (y :: r)
    have hg : gt y (r ++ [x]) = gt y r + if y < x then 1 else 0 := by
      unfold gt
      rw [List.filter_append, List.length_append, List.filter_cons]
      by_cases h : y < x <;> simp [h]
    rw [ih, hg, less_cons]; omega
theorem val_of {n : Nat} : ∀ {F : Fd} {l : List Int} {d : Nat}, Gd n F → (l, d) ∈ F → valV (fkv F) (l.map Sum.inl) = some (.int (d : Int))
  | [], _, _, _, h => by cases h
  | p :: r, l, d, hG, h => by
    show valV ((p.1.map Sum.inl, V.int (p.2 : Int)) :: fkv r) (l.map Sum.inl) = _
    by_cases e : p.1 = l
    · rw [valV_pos (by rw [e])]
      have h1 := (hG p List.mem_cons_self).2
      have h2 := (hG _ h).2
      have h2' : d + inv l = inv (desc n) := h2
      rw [e] at h1
      have : p.2 = d := by omega
      rw [this]
    · rw [valV_neg (fun z => e (inl_inj z))]
      refine val_of (fun x hx => hG x (List.mem_cons_of_mem _ hx)) ((List.mem_cons.mp h).resolve_left fun z => e (by rw [← z]))
def sp_law (K : PySem.W.Frag) : Sp := fun vs H Q _ => ∃ (a : Addr) (ns : List Int), vs = [.ref a] ∧ SqL K H a (ns.map V.int) ∧ ns.length ≤ 63 ∧ ∀ H', Q (.bl true) H'
theorem ok_law (T : Txt K mg) : FnG P w K mg base CX0 4 T.law_a T.law_d ["script"] (sp_law K) := by
  refine okG T.law_F sc_law (fun vs H Q E h => ?_) (fun cdv A ou t H vs Q E hG hr h => ?_)
  · obtain ⟨_, _, rfl, _⟩ := h; rfl
  have nd := sc_law.nd
  obtain ⟨a, ns, rfl, hS, hlen, q⟩ := h
  refine ⟨_, (pss_cons (sset 1 nd (pe_callG (ok_law_source T) hG (hr.mono (by decide)) (by rfl) T.law_source_g T.law_source_F.kp T.law_source_b .nil pass0 (pa_cons (pv 0) pa_nil)))
      (pss_cons (sset 2 nd (pe_callG (ok_law_distances T) hG (hr.mono (by decide)) (by rfl) T.law_distances_g T.law_distances_F.kp T.law_distances_b .nil pass0 (pa_cons (pe_op op_add pe_int (pe_callG (ok_law_draw T) hG (hr.mono (by decide)) (by rfl) T.law_draw_g T.law_draw_F.kp T.law_draw_b .nil pass0 (pa_cons (pv 1) (pa_cons pe_int pa_nil)))) pa_nil)))
      (pss_cons (ps_if (pt_cmpR (neDK K hr.units) (pe_lock (pe_lc (own := [("line", 4)]) (hc := rfl) (hN := nd) (hi := (pi_keys (pv 2))) (ok := blkOk_by (by rfl)) (hg := fun _ _ _ _ _ => (gset 4 nd)) (ht := (fun _ _ _ _ _ => pts_one (pt_not (pt_val (pe_callG (ok_law_right T) hG (hr.mono (by decide)) (by rfl) T.law_right_g T.law_right_F.kp T.law_right_b .nil pass0 (pa_cons (pe_callTy (listK K) (by rfl) T.m_list (by decide +kernel) (pa_cons (pv 4) pa_nil)) (pa_cons (pe_dget (hu_of hr) (pv 2) (pv 4) (fun _ _ => rfl)) pa_nil))))))) (he := fun _ _ _ _ _ => (pv 4)))) (pe_lst pa_nil) (nomark _))
        (pss_one (ps_ret pe_bl))
        pss_nil)
      (pss_cons (ps_for PassesOwn.never rfl (pi_range1 (by rfl) T.m_range (pa_cons (pe_op op_add pe_int (pe_callB (call_min2 rfl) (by rfl) T.m_min (by decide +kernel) (pa_cons pe_int (pa_cons (pe_callB (lenK K) (by rfl) T.m_len PySem.boot_len (pa_cons (pv 0) pa_nil)) pa_nil)))) pa_nil)) (gset 3 nd)
        (pss_cons (sset 4 nd (pe_callG (ok_law_shuffled T) hG (hr.mono (by decide)) (by rfl) T.law_shuffled_g T.law_shuffled_F.kp T.law_shuffled_b .nil pass0 (pa_cons (pv 1) (pa_cons (pe_op op_add pe_int (pe_callG (ok_law_draw T) hG (hr.mono (by decide)) (by rfl) T.law_draw_g T.law_draw_F.kp T.law_draw_b .nil pass0 (pa_cons (pv 1) (pa_cons (pe_ix (ix_listK K) (pe_lst (pa_cons pe_int (pa_cons pe_int pa_nil))) (pe_callG (ok_law_draw T) hG (hr.mono (by decide)) (by rfl) T.law_draw_g T.law_draw_F.kp T.law_draw_b .nil pass0 (pa_cons (pv 1) (pa_cons pe_int pa_nil))) (fun _ _ => rfl)) pa_nil)))) pa_nil))))
      (pss_cons (sset 5 nd pe_int)
      (pss_cons (ps_for PassesOwn.never rfl (pi_enumK K (by rfl) T.m_enumerate (pa_cons (pv 4) pa_nil)) (pg_tupK K 2 rfl (pgs_cons (gset 6 nd) (pgs_cons (gset 7 nd) pgs_nil)))
        (pss_one (sset 5 nd (pe_op op_add (pv 5) (pe_callB (lenK K) (by rfl) T.m_len PySem.boot_len (pa_cons (pe_lc (own := [("other", 8)]) (hc := rfl) (hN := nd) (hi := (pi_listK K (pe_slice (sl_listK K) (pv 4) po_none (po_some (pv 6))))) (ok := blkOk_by (by rfl)) (hg := fun _ _ _ _ _ => (gset 8 nd)) (ht := (fun _ _ _ _ _ => pts_one (pt_cmpR op_lt (pv 8) (pv 7) (nomark _)))) (he := fun _ _ _ _ _ => pe_int)) pa_nil))))))
      (pss_one (ps_if (pt_not (pt_val (pe_callG (ok_law_right T) hG (hr.mono (by decide)) (by rfl) T.law_right_g T.law_right_F.kp T.law_right_b .nil pass0 (pa_cons (pv 4) (pa_cons (pv 5) pa_nil)))))
        (pss_one (ps_ret pe_bl))
        pss_nil))))))
      (pss_one (ps_ret (pe_and (pe_cmpR (eqDK K hr.units) (pe_callG (ok_exchanges T) hG (hr.mono (by decide)) (by rfl) T.exchanges_g T.exchanges_F.kp T.exchanges_b .nil pass0 (pa_cons (pe_lst (pa_cons pe_int pa_nil)) pa_nil)) (pe_lst pa_nil) (nomark _)) (pe_one (pe_cmpR op_eq (pe_callB (lenK K) (by rfl) T.m_len PySem.boot_len (pa_cons (pe_callG (ok_exchanges T) hG (hr.mono (by decide)) (by rfl) T.exchanges_g T.exchanges_F.kp T.exchanges_b .nil pass0 (pa_cons (pe_lst (pa_cons pe_int (pa_cons pe_int (pa_cons pe_int (pa_cons pe_int pa_nil))))) pa_nil)) pa_nil)) pe_int (nomark _)))))))))), ?_⟩
  fail "ww"
  refine ⟨a, ns, rfl, hS, hlen, fun H1 r g s1 hr0 hg0 hR1 => ?_⟩
  fail "ww"
  refine ⟨r, g, 5, _, rfl, hR1, by decide, by decide, by decide, fun H2 d d0 d1 s2 hR2 => ?_⟩
  obtain ⟨e, rfl⟩ := Int.eq_ofNat_of_zero_le d0
  fail "ww"
  rw [show (1 : Int) + (e : Int) = ((1 + e : Nat) : Int) by omega]
  obtain ⟨n, hn⟩ : ∃ n, n = 1 + e := ⟨_, rfl⟩
  rw [← hn]
  refine ⟨n, rfl, by omega, by omega, fun H3 pf F s3 npf hpf hG hFl => ?_⟩
  have hR3 := hR2.same s3
  have hpfr := hR2.ner npf
  fail "ww"
  refine r_lockE pf (fkv F) hpf (fun od => ?_)
  have hR3' := hR3.other (o := HO.frz od (.dT (fkv F))) hpfr
  have hfz : (upd H3 pf (.frz od (.dT (fkv F)))) pf = some (.frz od (.dT (fkv F))) := upd_same
  have sH2 : Same H H2 := fun b o e => s2 b o (ne_of_none e hr0) (ne_of_none e hg0) (s1 b o e)
  have npfH : H pf = none := sH2.free npf
  have sH4 : Same H (upd H3 pf (.frz od (.dT (fkv F)))) := same_old (sH2.trans s3) npfH
  generalize upd H3 pf (.frz od (.dT (fkv F))) = H4 at hR3' hfz sH4 ⊢
  fail "ww"
  show tVar 2 _ _ _
  fail "ww"
  refine ⟨pf, od, rfl, .inr ⟨fkv F, hfz, ?_⟩⟩
  intro D nD
  have hDf : D ≠ pf := (ne_of_none hfz nD).symm
  refine lc_it Xk.walk_keysT (fun i Hh => Same H4 Hh ∧ Hh D = some (.lst (([] : List Int).map V.int))) ⟨same_new nD, upd_same⟩ (fun i Hh _ p => p.1 _ _ hfz) (fun i x Hh Hh' hi p y => ?_) (fun Hh p => ?_)
  · obtain ⟨rfl, kk, v, qq, ek, rfl, hqq⟩ := y
    have hfl : (fkv F).length = F.length := List.length_map ..
    have hiF : i < F.length := by rw [← hfl]; exact hi
    have ek' : (fkv F)[i]? = some (F[i].1.map Sum.inl, V.int (F[i].2 : Int)) := by
      unfold fkv; rw [List.getElem?_map, List.getElem?_eq_getElem hiF]; rfl
    rw [ek'] at ek
    cases ek
    rw [key_v] at hqq
    have hmem := List.getElem_mem hiF
    generalize F[i] = fd at hqq hmem
    obtain ⟨l, dd⟩ := fd
    have hv := val_of hG hmem
    obtain ⟨hlp, hld⟩ := hG _ hmem
    have hll : l.length = n := by rw [hlp.length_eq]; simp [ascN]
    fail "ww"
    refine ⟨rfl, ?_⟩
    fail "ww"
    refine n_listOf2 (.inr (sqT hqq)) (new_ fun v1 G1 m1 t1 g1 => ?_)
    have tt := p.1.trans t1
    fail "ww"
    refine r_dgetT ?_
    fail "ww"
    refine ⟨pf, _, rfl, .inr ⟨fkv F, l.map Sum.inl, qq, .inr ⟨od, tt _ _ hfz⟩, rfl, by rw [key_v]; exact t1 _ _ hqq, hv.symm⟩, ?_⟩
    refine ⟨v1, l, dd, rfl, g1, by rw [hll]; exact hlp, by omega, by omega, by rw [hll]; exact hld, fun G2 t2 => ?_⟩
    fail "ww"
    exact ⟨tt.trans t2, (t1.trans t2) _ _ p.2⟩
  · obtain ⟨s4, hD⟩ := p
    refine ⟨s4 _ _ hfz, ?_⟩
    have hD5 := upd_to (o := HO.dT (fkv F)) hDf hD
    have hR5 := (hR3'.same s4).other (o := .dT (fkv F)) hpfr
    have sH5 : Same H (upd Hh pf (.dT (fkv F))) := same_old (sH4.trans s4) npfH
    generalize upd Hh pf (.dT (fkv F)) = H5 at hD5 hR5 sH5 ⊢
    have hSx : SqL K H5 a (ns.map V.int) := sH5.seq hS
    clear hD s4 hR3' hfz nD hpf npf hpfr hR3 s3 hR2 s2 hR1 s1 sH2 sH4 npfH
    fail "ww"
    refine new_ fun e0 H6 n6 s6 h6 => ?_
    refine r_neL (sq (s6 _ _ hD5)) (ms := []) (sq h6) ?_
    fail "ww"
    refine r_itNF rfl ?_
    have hR6 := hR5.same s6
    have hS6 := s6.seq hSx
    clear hD5 hR5 hSx s6 sH5 h6 n6
    fail "ww"
    rw [List.length_map]
    obtain ⟨N, hN, hN2⟩ : ∃ N : Nat, (2 + (if ((ns.length : Nat) : Int) < 4 then ((ns.length : Nat) : Int) else 4)) = (N : Int) ∧ N ≤ 6 := by
      split
      · exact ⟨2 + ns.length, by omega, by omega⟩
      · exact ⟨6, by omega, by omega⟩
    rw [hN]
    refine ⟨by omega, by omega, ?_⟩
    refine forF walk_range (fun i σ' H' => ∃ y3 y4 y5 y6 y7 y8, σ' = [some (.ref a), some (.ref r), some (.ref pf), y3, y4, y5, y6, y7, y8] ∧ Bag H' r g (1 + 100 * i))
      ⟨none, none, none, none, none, none, rfl, hR6⟩ (fun _ _ _ _ _ => trivial) (fun i σ' H' hi p => ?_) (fun σ' H' p => ?_)
    · clear hR6 hS6
      obtain ⟨y3, y4, y5, y6, y7, y8, rfl, hR⟩ := p
      have hi6 : i < 6 := by omega
      fail "ww"
      refine new_ fun l1 G1 m1 t1 g1 => ?_
      have hl1 := hR.ner m1
      fail "ww"
      refine ⟨r, g, 2, _, rfl, hR.same t1, by omega, by decide, by decide, fun G2 d1 d10 d11 t2 hR2 => ?_⟩
      obtain ⟨top, hat, ht1, ht2⟩ : ∃ top : Int, atI [V.int 12, V.int 60] d1 = some (.int top) ∧ 1 ≤ top ∧ top ≤ 60 := by
        have : d1 = 0 ∨ d1 = 1 := by omega
        rcases this with e | e <;> subst e
        · exact ⟨12, rfl, by decide, by decide⟩
        · exact ⟨60, rfl, by decide, by decide⟩
      refine r_ixL (sq (t2 _ _ hl1.1 hl1.2 g1)) hat ?_
      fail "ww"
      refine ⟨r, g, top, _, rfl, hR2, by omega, by omega, by omega, fun G3 d2 d20 d21 t3 hR3 => ?_⟩
      obtain ⟨e2, rfl⟩ := Int.eq_ofNat_of_zero_le d20
      fail "ww"
      rw [show (1 : Int) + (e2 : Int) = ((1 + e2 : Nat) : Int) by omega]
      obtain ⟨w, hw⟩ : ∃ w, w = 1 + e2 := ⟨_, rfl⟩
      rw [← hw]
      refine ⟨r, g, w, _, rfl, hR3, by omega, by omega, fun G4 pl l t4 m4 hR4 hpl hlp => ?_⟩
      have hll : l.length = w := by rw [hlp.length_eq]; simp [ascN]
      clear t1 t2 t3 t4 g1 m1 m4 hl1 hat hR hR2 hR3
      fail "ww"
      refine forEI (walk_enum (xs := l.map V.int)) (fun i' σ' G => ∃ (y6 y7 y8 : Option V), σ' = [some (.ref a), some (.ref r), some (.ref pf), some (.int (0 + (i : Int))), some (.ref pl), some (.int ((asc (l.take i') : Nat) : Int)), y6, y7, y8] ∧ Same G4 G)
        ⟨y6, y7, y8, rfl, Same.refl _⟩ (fun i' σ' G _ p => ?_) (fun i' σ' G T1 hi' p' nT => ?_) (fun σ' G p' => ?_)
      · obtain ⟨_, _, _, _, s⟩ := p; exact sq (s _ _ hpl)
      · obtain ⟨y6, y7, y8, rfl, s⟩ := p'
        have s2 := s.trans (same_new (o := .tup [.int (i' : Nat), .int l[i']]) nT)
        have hpl2 := s2 _ _ hpl
        fail "ww"
        refine n_slT (sq hpl2) (a := i') rfl (new_ fun v1 G5 m5 t5 g5 => ?_)
        fail "ww"
        intro D nD
        have hlw : (l.take i').length ≤ 100 := by rw [List.length_take]; omega
        have en : asc (l.take (i' + 1)) = asc (l.take i') + less l[i'] (l.take i') := by rw [take_one hi', asc_snoc]
        rw [en]
        generalize l[i'] = x0 at *
        generalize hL : l.take i' = L at *
        refine lc_same (walk_list (xs := L.map V.int)) (fun j => ((L.take j).filter fun y => decide (y < x0)).map fun _ => V.int 1) nD (Same.refl _) rfl (fun Hx sx => sq (sx _ _ g5)) (fun j x Hx Hx' hj pp y => ?_) (fun G6 t6 hD => ?_)
        · obtain ⟨rfl, ex⟩ := y
          have hj' : j < L.length := by simpa using hj
          rw [List.getElem?_map, List.getElem?_eq_getElem hj'] at ex
          cases ex
          have lb : ((L.take j).filter fun y => decide (y < x0)).length ≤ 100 := Nat.le_trans (List.length_filter_le _ _) (by rw [List.length_take]; omega)
          fail "ww"
          refine ⟨rfl, ?_⟩
          fail "ww"
          refine r_dec (fun gg => ?_) (fun gg => ?_)
          · fail "ww"
            refine ⟨_, pp.2, by rw [List.length_map]; exact size_lt (by omega), same_old pp.1 nD, ?_⟩
            rw [upd_same, take_one hj', List.filter_append, List.filter_cons_of_pos (by rw [decide_eq_true gg]), List.map_append]; rfl
          · rw [take_one hj', List.filter_append, List.filter_cons_of_neg (by rw [decide_eq_false gg]; decide), List.map_append]
            refine ⟨pp.1, ?_⟩
            rw [pp.2]
            simp
        · rw [List.length_map, List.take_of_length_le (Nat.le_refl _)] at hD
          fail "ww"
          rw [List.length_map]
          exact ⟨_, _, _, rfl, s2.trans (t5.trans t6)⟩
      · obtain ⟨y6, y7, y8, rfl, s⟩ := p'
        rw [List.length_map, List.take_of_length_le (Nat.le_refl _)]
        fail "ww"
        have hai := asc_inv l (hlp.nodup_iff.mpr (asc_nodup w))
        have hdi := desc_inv w
        refine ⟨pl, l, asc l, rfl, s _ _ hpl, by rw [hll]; exact hlp, by omega, by omega, by rw [hll] at *; omega, fun G5 t5 => ?_⟩
        fail "ww"
        exact ⟨_, _, _, _, _, _, rfl, ((hR4.same s).same t5).le (by omega)⟩
    · obtain ⟨y3, y4, y5, y6, y7, y8, rfl, hR⟩ := p
      fail "ww"
      refine new_ fun v1 G1 m1 t1 g1 => ?_
      fail "ww"
      refine ⟨v1, [1], rfl, sq g1, by decide, by decide, by decide, fun G2 p2 ts2 ps2 t2 m2 nts hp2 hC2 hSt hLv hpl hex => ?_⟩
      have hc1 := (asc_count (n := 1) (E := [1]) (by decide) hSt hLv).2
      have e1 : ps2 = [] := List.eq_nil_of_length_eq_zero (by omega)
      subst e1
      fail "ww"
      refine new_ fun v2 G3 m3 t3 g3 => ?_
      refine r_eqCs (sq (t3 _ _ hp2)) (hC2.same t3) (ts := ts2) (us := []) (ds := []) (sq g3) ⟨rfl, fun i t e => by simp at e⟩ ?_
      rw [show ([] : List Nat).map (fun k => (k, k + 1)) = [] from rfl, decide_eq_true rfl]
      fail "ww"
      refine new_ fun v3 G4 m4 t4 g4 => ?_
      fail "ww"
      refine ⟨v3, [1, 2, 3, 4], rfl, sq g4, by decide, by decide, by decide, fun G5 p5 ts5 ps5 t5 m5 nts5 hp5 hC5 hSt5 hLv5 hpl5 hex5 => ?_⟩
      have hc5 := (asc_count (n := 4) (E := [1, 2, 3, 4]) (by decide) hSt5 hLv5).2
      have e5 : inv [1, 2, 3, 4] = 0 := by decide
      have e6 : ts5.length = 6 := by rw [hC5.len, List.length_map]; omega
      fail "ww"
      rw [List.length_map, e6, decide_eq_true (show ((6 : Nat) : Int) = 6 from rfl)]
      exact q _
end
theorem all_mk {w : World} {K : PySem.W.Frag} {h : Heap} {mg : Str → Option Value} {l : PySem.W.OpenLaw} {fa f_check_arrangement f_exchange_places f_law_source f_law_draw f_law_after f_law_down f_exchanges f_law_shuffled f_law_distances f_law_right f_law : Addr} (X : K.In h) (G : h.Ns mainGlobals mg) (hfa : mg "law" = some (.ref fa))
    {od0 an0 od1 an1 od2 an2 od3 an3 od4 an4 od5 an5 od6 an6 od7 an7 od8 an8 od9 an9 od10 an10 : Option Addr} {sl0 sl1 sl2 sl3 sl4 sl5 sl6 sl7 sl8 sl9 sl10 : Array (Option Value)} {oc0 kV0 dc0 pm0 cd0 ct0 oc1 kV1 dc1 pm1 cd1 ct1 oc2 kV2 dc2 pm2 cd2 ct2 oc3 kV3 dc3 pm3 cd3 ct3 oc4 kV4 dc4 pm4 cd4 ct4 oc5 kV5 dc5 pm5 cd5 ct5 oc6 kV6 dc6 pm6 cd6 ct6 oc7 kV7 dc7 pm7 cd7 ct7 oc8 kV8 dc8 pm8 cd8 ct8 oc9 kV9 dc9 pm9 cd9 ct9 oc10 kV10 dc10 pm10 cd10 ct10 : Value}
    (a0 : PySem.W.nsIn K mainGlobals "check_arrangement" = some (some (.ref f_check_arrangement)))
    (l0 : K.lookup f_check_arrangement = some ⟨oc0, od0, .func (PySem.W.fnOf "check_arrangement" "check_arrangement" (defArgs s_check_arrangement) (defBody s_check_arrangement) (defScope s_check_arrangement) .none kV0 dc0 pm0 an0 cd0 ct0), sl0⟩) (c0 : PySem.W.codeIn K cd0 "check_arrangement" = true) (k0 : PySem.W.keepIn K (.ref f_check_arrangement) = true)
    (a1 : PySem.W.nsIn K mainGlobals "exchange_places" = some (some (.ref f_exchange_places)))
    (l1 : K.lookup f_exchange_places = some ⟨oc1, od1, .func (PySem.W.fnOf "exchange_places" "exchange_places" (defArgs s_exchange_places) (defBody s_exchange_places) (defScope s_exchange_places) .none kV1 dc1 pm1 an1 cd1 ct1), sl1⟩) (c1 : PySem.W.codeIn K cd1 "exchange_places" = true) (k1 : PySem.W.keepIn K (.ref f_exchange_places) = true)
    (a2 : PySem.W.nsIn K mainGlobals "_law_source" = some (some (.ref f_law_source)))
    (l2 : K.lookup f_law_source = some ⟨oc2, od2, .func (PySem.W.fnOf "_law_source" "_law_source" (defArgs s_law_source) (defBody s_law_source) (defScope s_law_source) .none kV2 dc2 pm2 an2 cd2 ct2), sl2⟩) (c2 : PySem.W.codeIn K cd2 "_law_source" = true) (k2 : PySem.W.keepIn K (.ref f_law_source) = true)
    (a3 : PySem.W.nsIn K mainGlobals "_law_draw" = some (some (.ref f_law_draw)))
    (l3 : K.lookup f_law_draw = some ⟨oc3, od3, .func (PySem.W.fnOf "_law_draw" "_law_draw" (defArgs s_law_draw) (defBody s_law_draw) (defScope s_law_draw) .none kV3 dc3 pm3 an3 cd3 ct3), sl3⟩) (c3 : PySem.W.codeIn K cd3 "_law_draw" = true) (k3 : PySem.W.keepIn K (.ref f_law_draw) = true)
    (a4 : PySem.W.nsIn K mainGlobals "_law_after" = some (some (.ref f_law_after)))
    (l4 : K.lookup f_law_after = some ⟨oc4, od4, .func (PySem.W.fnOf "_law_after" "_law_after" (defArgs s_law_after) (defBody s_law_after) (defScope s_law_after) .none kV4 dc4 pm4 an4 cd4 ct4), sl4⟩) (c4 : PySem.W.codeIn K cd4 "_law_after" = true) (k4 : PySem.W.keepIn K (.ref f_law_after) = true)
    (a5 : PySem.W.nsIn K mainGlobals "_law_down" = some (some (.ref f_law_down)))
    (l5 : K.lookup f_law_down = some ⟨oc5, od5, .func (PySem.W.fnOf "_law_down" "_law_down" (defArgs s_law_down) (defBody s_law_down) (defScope s_law_down) .none kV5 dc5 pm5 an5 cd5 ct5), sl5⟩) (c5 : PySem.W.codeIn K cd5 "_law_down" = true) (k5 : PySem.W.keepIn K (.ref f_law_down) = true)
    (a6 : PySem.W.nsIn K mainGlobals "exchanges" = some (some (.ref f_exchanges)))
    (l6 : K.lookup f_exchanges = some ⟨oc6, od6, .func (PySem.W.fnOf "exchanges" "exchanges" (defArgs s_exchanges) (defBody s_exchanges) (defScope s_exchanges) .none kV6 dc6 pm6 an6 cd6 ct6), sl6⟩) (c6 : PySem.W.codeIn K cd6 "exchanges" = true) (k6 : PySem.W.keepIn K (.ref f_exchanges) = true)
    (a7 : PySem.W.nsIn K mainGlobals "_law_shuffled" = some (some (.ref f_law_shuffled)))
    (l7 : K.lookup f_law_shuffled = some ⟨oc7, od7, .func (PySem.W.fnOf "_law_shuffled" "_law_shuffled" (defArgs s_law_shuffled) (defBody s_law_shuffled) (defScope s_law_shuffled) .none kV7 dc7 pm7 an7 cd7 ct7), sl7⟩) (c7 : PySem.W.codeIn K cd7 "_law_shuffled" = true) (k7 : PySem.W.keepIn K (.ref f_law_shuffled) = true)
    (a8 : PySem.W.nsIn K mainGlobals "_law_distances" = some (some (.ref f_law_distances)))
    (l8 : K.lookup f_law_distances = some ⟨oc8, od8, .func (PySem.W.fnOf "_law_distances" "_law_distances" (defArgs s_law_distances) (defBody s_law_distances) (defScope s_law_distances) .none kV8 dc8 pm8 an8 cd8 ct8), sl8⟩) (c8 : PySem.W.codeIn K cd8 "_law_distances" = true) (k8 : PySem.W.keepIn K (.ref f_law_distances) = true)
    (a9 : PySem.W.nsIn K mainGlobals "_law_right" = some (some (.ref f_law_right)))
    (l9 : K.lookup f_law_right = some ⟨oc9, od9, .func (PySem.W.fnOf "_law_right" "_law_right" (defArgs s_law_right) (defBody s_law_right) (defScope s_law_right) .none kV9 dc9 pm9 an9 cd9 ct9), sl9⟩) (c9 : PySem.W.codeIn K cd9 "_law_right" = true) (k9 : PySem.W.keepIn K (.ref f_law_right) = true)
    (a10 : PySem.W.nsIn K mainGlobals "law" = some (some (.ref f_law)))
    (l10 : K.lookup f_law = some ⟨oc10, od10, .func (PySem.W.fnOf "law" "law" (defArgs s_law) (defBody s_law) (defScope s_law) .none kV10 dc10 pm10 an10 cd10 ct10), sl10⟩) (c10 : PySem.W.codeIn K cd10 "law" = true) (k10 : PySem.W.keepIn K (.ref f_law) = true)
    (z_enumerate : PySem.W.nsIn K mainGlobals "enumerate" = some none) (z_isinstance : PySem.W.nsIn K mainGlobals "isinstance" = some none) (z_len : PySem.W.nsIn K mainGlobals "len" = some none) (z_list : PySem.W.nsIn K mainGlobals "list" = some none) (z_max : PySem.W.nsIn K mainGlobals "max" = some none) (z_min : PySem.W.nsIn K mainGlobals "min" = some none) (z_range : PySem.W.nsIn K mainGlobals "range" = some none) (z_repr : PySem.W.nsIn K mainGlobals "repr" = some none) (z_set : PySem.W.nsIn K mainGlobals "set" = some none) (z_sorted : PySem.W.nsIn K mainGlobals "sorted" = some none) (z_tuple : PySem.W.nsIn K mainGlobals "tuple" = some none) :
    ∃ fd : FuncData, (∀ (s : Shared) (v : Value), BindsTo s fd ⟨[v], []⟩ [("script", v)]) ∧ ∀ base : Heap, K.In base → base.Ns mainGlobals mg → FnG l.prog w K mg base CX0 4 fa fd ["script"] (sp_law K) := by
  have e := hfa.symm.trans (PySem.W.mg_of X G a10)
  cases e
  have F0 := fun_mk (st := s_check_arrangement) l0 c0 k0
  have b0 := F0.binds (ps := ["row"]) fun _ _ _ _ _ _ us hl => match us, hl with | [_], _ => rfl
  have F1 := fun_mk (st := s_exchange_places) l1 c1 k1
  have b1 := F1.binds (ps := ["wanted"]) fun _ _ _ _ _ _ us hl => match us, hl with | [_], _ => rfl
  have F2 := fun_mk (st := s_law_source) l2 c2 k2
  have b2 := F2.binds (ps := ["script"]) fun _ _ _ _ _ _ us hl => match us, hl with | [_], _ => rfl
  have F3 := fun_mk (st := s_law_draw) l3 c3 k3
  have b3 := F3.binds (ps := ["source", "many"]) fun _ _ _ _ _ _ us hl => match us, hl with | [_, _], _ => rfl
  have F4 := fun_mk (st := s_law_after) l4 c4 k4
  have b4 := F4.binds (ps := ["line", "acts"]) fun _ _ _ _ _ _ us hl => match us, hl with | [_, _], _ => rfl
  have F5 := fun_mk (st := s_law_down) l5 c5 k5
  have b5 := F5.binds (ps := ["size_here"]) fun _ _ _ _ _ _ us hl => match us, hl with | [_], _ => rfl
  have F6 := fun_mk (st := s_exchanges) l6 c6 k6
  have b6 := F6.binds (ps := ["wanted"]) fun _ _ _ _ _ _ us hl => match us, hl with | [_], _ => rfl
  have F7 := fun_mk (st := s_law_shuffled) l7 c7 k7
  have b7 := F7.binds (ps := ["source", "size_here"]) fun _ _ _ _ _ _ us hl => match us, hl with | [_, _], _ => rfl
  have F8 := fun_mk (st := s_law_distances) l8 c8 k8
  have b8 := F8.binds (ps := ["size_here"]) fun _ _ _ _ _ _ us hl => match us, hl with | [_], _ => rfl
  have F9 := fun_mk (st := s_law_right) l9 c9 k9
  have b9 := F9.binds (ps := ["line", "many"]) fun _ _ _ _ _ _ us hl => match us, hl with | [_, _], _ => rfl
  have F10 := fun_mk (st := s_law) l10 c10 k10
  have b10 := F10.binds (ps := ["script"]) fun _ _ _ _ _ _ us hl => match us, hl with | [_], _ => rfl
  have kb_exchanges_wanted : KBinds K (PySem.W.fnOf "exchanges" "exchanges" (defArgs s_exchanges) (defBody s_exchanges) (defScope s_exchanges) .none kV6 dc6 pm6 an6 cd6 ct6) ["wanted"] ["wanted"] (fun (us ws : List Value) => match us, ws with | [], [w0] => [w0] | _, _ => []) (fun (us ws : List V) => match us, ws with | [], [w0] => [w0] | _, _ => []) := by
    refine ⟨fun s us ws _ hl => ?_, fun {vs us zs ws} h1 h2 => ?_⟩
    · revert hl; (try dsimp only); split
      · intro _; exact .of_eq rfl
      · intro hl; cases hl
    · rcases h1 with _ | ⟨p1, _ | ⟨p2, h1⟩⟩ <;> rcases h2 with _ | ⟨q1, _ | ⟨q2, h2⟩⟩ <;> ((try dsimp only); repeat (first | exact .nil | refine .cons (by assumption) ?_))
  let T : Txt K mg := { check_arrangement_a := f_check_arrangement, check_arrangement_d := _, check_arrangement_F := F0, check_arrangement_b := b0, check_arrangement_g := PySem.W.mg_of X G a0, exchange_places_a := f_exchange_places, exchange_places_d := _, exchange_places_F := F1, exchange_places_b := b1, exchange_places_g := PySem.W.mg_of X G a1, law_source_a := f_law_source, law_source_d := _, law_source_F := F2, law_source_b := b2, law_source_g := PySem.W.mg_of X G a2, law_draw_a := f_law_draw, law_draw_d := _, law_draw_F := F3, law_draw_b := b3, law_draw_g := PySem.W.mg_of X G a3, law_after_a := f_law_after, law_after_d := _, law_after_F := F4, law_after_b := b4, law_after_g := PySem.W.mg_of X G a4, law_down_a := f_law_down, law_down_d := _, law_down_F := F5, law_down_b := b5, law_down_g := PySem.W.mg_of X G a5, exchanges_a := f_exchanges, exchanges_d := _, exchanges_F := F6, exchanges_b := b6, exchanges_g := PySem.W.mg_of X G a6, law_shuffled_a := f_law_shuffled, law_shuffled_d := _, law_shuffled_F := F7, law_shuffled_b := b7, law_shuffled_g := PySem.W.mg_of X G a7, law_distances_a := f_law_distances, law_distances_d := _, law_distances_F := F8, law_distances_b := b8, law_distances_g := PySem.W.mg_of X G a8, law_right_a := f_law_right, law_right_d := _, law_right_F := F9, law_right_b := b9, law_right_g := PySem.W.mg_of X G a9, law_a := fa, law_d := _, law_F := F10, law_b := b10, law_g := PySem.W.mg_of X G a10, k_exchanges_wanted := kb_exchanges_wanted, m_enumerate := PySem.W.mg_none_of X G z_enumerate, m_isinstance := PySem.W.mg_none_of X G z_isinstance, m_len := PySem.W.mg_none_of X G z_len, m_list := PySem.W.mg_none_of X G z_list, m_max := PySem.W.mg_none_of X G z_max, m_min := PySem.W.mg_none_of X G z_min, m_range := PySem.W.mg_none_of X G z_range, m_repr := PySem.W.mg_none_of X G z_repr, m_set := PySem.W.mg_none_of X G z_set, m_sorted := PySem.W.mg_none_of X G z_sorted, m_tuple := PySem.W.mg_none_of X G z_tuple }
  exact ⟨PySem.W.fnOf "law" "law" (defArgs s_law) (defBody s_law) (defScope s_law) .none kV10 dc10 pm10 an10 cd10 ct10, fun s v => .of_eq rfl, fun base _ _ => ok_law T⟩
end L15
open PySem PySem.W PyProof.Rows
set_option maxHeartbeats 0 in
theorem PySem.Challenge.cw_sortstretches_k15_fewest_exchanges_holds : PySem.Challenge.rw_sortstretches_k15_fewest_exchanges.Holds := by
  w_on; o_law; k_head; (case hw => w_witness2)
  k_fill
  refine Xk.walkG (l := PySem.Challenge.rw_sortstretches_k15_fewest_exchanges) (m := 63) (n := 4) (x := "script") (CX := L2.CX0) (sp := L15.sp_law) rfl (by decide) rfl ⟨rfl, by decide, by decide⟩ (fun w h Y => PySem.W.kIn_of Y) ?F (fun K H a ns hl hO hS => ⟨a, ns, rfl, hS, hl, fun _ => rfl⟩) (fun _ _ _ _ h => h)
  case F =>
    intro w mg fa h KX G hmg
    refine' L15.all_mk KX G hmg ?a0 ?l0 ?c0 ?k0 ?a1 ?l1 ?c1 ?k1 ?a2 ?l2 ?c2 ?k2 ?a3 ?l3 ?c3 ?k3 ?a4 ?l4 ?c4 ?k4 ?a5 ?l5 ?c5 ?k5 ?a6 ?l6 ?c6 ?k6 ?a7 ?l7 ?c7 ?k7 ?a8 ?l8 ?c8 ?k8 ?a9 ?l9 ?c9 ?k9 ?a10 ?l10 ?c10 ?k10 ?z_enumerate ?z_isinstance ?z_len ?z_list ?z_max ?z_min ?z_range ?z_repr ?z_set ?z_sorted ?z_tuple
    (case a0 => k_is); (case l0 => k_is); (case c0 => k_is); (case k0 => k_is); (case a1 => k_is); (case l1 => k_is); (case c1 => k_is); (case k1 => k_is); (case a2 => k_is); (case l2 => k_is); (case c2 => k_is); (case k2 => k_is); (case a3 => k_is); (case l3 => k_is); (case c3 => k_is); (case k3 => k_is); (case a4 => k_is); (case l4 => k_is); (case c4 => k_is); (case k4 => k_is); (case a5 => k_is); (case l5 => k_is); (case c5 => k_is); (case k5 => k_is); (case a6 => k_is); (case l6 => k_is); (case c6 => k_is); (case k6 => k_is); (case a7 => k_is); (case l7 => k_is); (case c7 => k_is); (case k7 => k_is); (case a8 => k_is); (case l8 => k_is); (case c8 => k_is); (case k8 => k_is); (case a9 => k_is); (case l9 => k_is); (case c9 => k_is); (case k9 => k_is); (case a10 => k_is); (case l10 => k_is); (case c10 => k_is); (case k10 => k_is); (case z_enumerate => k_is); (case z_isinstance => k_is); (case z_len => k_is); (case z_list => k_is); (case z_max => k_is); (case z_min => k_is); (case z_range => k_is); (case z_repr => k_is); (case z_set => k_is); (case z_sorted => k_is); (case z_tuple => k_is)
