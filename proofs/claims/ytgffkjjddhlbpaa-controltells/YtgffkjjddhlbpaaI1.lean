/- What Ints answers; and what stands below it. -/
import Derived.Test.YtgffkjjddhlbpaaW4
import Derived.Test.YtgffkjjddhlbpaaM2
import Derived.Test.YtgffkjjddhlbpaaI0
namespace Go.Proofs.Ytgffkjjddhlbpaa
end Go.Proofs.Ytgffkjjddhlbpaa
