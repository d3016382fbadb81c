/- Bytes and what is kept: at seats without word.Writer. Own work. -/
import Derived.Test.YtjfpdphedpnelaaBWord
