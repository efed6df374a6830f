"""The keeper of made blocks, and the runner that makes and enters them."""
