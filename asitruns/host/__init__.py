"""The host machine: its blocks, how middle blocks are dealt to its hands, and their looker."""
